"""The list of calls and the list that is given back; the document's examples."""

import unittest

from tests.helper import (ACCUMULATOR, CLEAR, COST, COUNTER, EXECUTE, FIRST_TEXT, LOAD, MOVES,
                          PLAN, SET, call, last, machine_text, numeral, run)
from turncarriage.machine import answers


class Examples(unittest.TestCase):
    def test_examples_in_order(self):
        found = run((SET, "7"), (MOVES, "19"), (COST, "19"), (EXECUTE, [2, 3, 1, 1]),
                    (ACCUMULATOR,), (COUNTER,), (PLAN, "90"))
        self.assertEqual(found, [
            [0],
            [4, 2, 3, 1, 1],
            [0, 1, 52],
            [0, 1, 1, 52],
            [0, 3, 49, 51, 51],
            [0, 2, 49, 57],
            [1, 1, 2, 1, 2, 2, 45, 49, 1, 49],
        ])

    def test_example_of_a_syntax_error(self):
        self.assertEqual(last((LOAD, "desk  a")), [-1005])


class ListOfCalls(unittest.TestCase):
    def test_flat_form(self):
        self.assertEqual(answers([3]), [3, 0, 1, 48])
        self.assertEqual(answers([1, 1, 55, 5, 3, 5, 1, 7, 2, 49, 57]),
                         [1, 0, 1, -2, 1, 0, 5, 4, 2, 3, 1, 1])
        self.assertEqual(answers([2, 0, 4]), [4, 0, 0, 1, 48, 3, 0, 1, 48])
        self.assertEqual(answers([7, 1, 48, 8, 1, 48]), [1, 0, 1, 0])
        self.assertEqual(answers([0, 0]), [1, -1000])

    def test_a_new_machine_for_each_list(self):
        first = run((LOAD, machine_text(base=2)), (SET, "7"), (EXECUTE, [1, 3, 1]))
        again = run((ACCUMULATOR,), (COUNTER,), (EXECUTE, []), (COST, "19"), (SET, "999999999999"))
        self.assertEqual(first[-1], [0, 1] + numeral(3))
        self.assertEqual(again, [[0, 1, 48], [0, 1, 48], [0, 0, 1, 48], [0, 1, 52], [0]])

    def test_initial_machine_is_the_one_of_the_text(self):
        self.assertEqual(run((COST, "123456"), (SET, "1000000000000"), (SET, "999999999999"),
                             (EXECUTE, [3] * 5), (EXECUTE, [3]), (EXECUTE, [1])),
                         run((LOAD, FIRST_TEXT), (COST, "123456"), (SET, "1000000000000"),
                             (SET, "999999999999"), (EXECUTE, [3] * 5), (EXECUTE, [3]),
                             (EXECUTE, [1]))[1:])

    def test_what_is_handed_in_stays(self):
        calls = (call(LOAD, machine_text()) + call(SET, "12") + call(EXECUTE, [1, 3, 2])
                 + call(MOVES, "-77") + call(PLAN, "500") + call(CLEAR, 1) + call(SET, [-1, 256]))
        kept = list(calls)
        answers(calls)
        self.assertEqual(calls, kept)

    def test_whole_numbers_and_no_truth_values(self):
        calls = (call(PLAN, "19") + call(PLAN, "0") + call(EXECUTE, [3, 1]) + call(MOVES, "-4")
                 + call(COST, "0") + call(CLEAR, 9) + call(LOAD, "") + call(SET, "5"))
        found = answers(calls)
        self.assertIs(type(found), list)
        self.assertEqual({type(number) for number in found}, {int})

    def test_four_hundred_calls(self):
        found = run(*([(SET, "3")] + [(EXECUTE, [1, 1])] * 398 + [(ACCUMULATOR,)]))
        self.assertEqual(found[-1], [0] + numeral(3 * 2 * 398))

    def test_rows_are_as_long_as_their_length_says(self):
        self.assertEqual(run((SET, [48] * 1100), (EXECUTE, [1] * 2100), (COST, [5] * 1100),
                             (COUNTER,)),
                         [[-1], [-4], [-1], [0, 1, 48]])

    def test_outermost_integers(self):
        least, most = -2 ** 63, 2 ** 63 - 1
        for number in (LOAD, SET, COST, MOVES, PLAN):
            self.assertEqual(run((number, [least]), (number, [most])), [[-1], [-1]])
        self.assertEqual(run((EXECUTE, [least]), (EXECUTE, [most]), (CLEAR, least), (CLEAR, most)),
                         [[-4], [-4], [-2], [-2]])


class RefusedCalls(unittest.TestCase):
    def test_a_refused_call_changes_nothing(self):
        before = [(LOAD, machine_text(base=3, places=5, carriage=3, turn=2, shift=7)),
                  (SET, "5"), (EXECUTE, [1, 3, 1, 1])]
        refused = [(LOAD, "desk b"), (LOAD, [300]), (SET, "243"), (SET, "07"), (SET, [-1]),
                   (EXECUTE, [1, 1, 5]), (EXECUTE, [1, 3, 1, 3]), (EXECUTE, [4, 1, 4]),
                   (EXECUTE, [1] * 2001), (CLEAR, 0), (CLEAR, 3), (COST, "-0"), (MOVES, "1x"),
                   (MOVES, "90000"), (PLAN, "")]
        behind = [(ACCUMULATOR,), (COUNTER,), (PLAN, "4"), (COST, "17"), (EXECUTE, [2]),
                  (ACCUMULATOR,)]
        plain = run(*(before + behind))[len(before):]
        self.assertEqual(plain[:2], [[0] + numeral(35), [0] + numeral(7)])
        for one in refused:
            found = run(*(before + [one] + behind))[len(before):]
            self.assertEqual(len(found[0]), 1, one)
            self.assertLess(found[0][0], 0, one)
            self.assertEqual(found[1:], plain, one)


if __name__ == "__main__":
    unittest.main()

"""The list of calls and the list that is given back; the document's examples."""

import unittest

from tests.helper import (ACCUMULATOR, BY_POSITION, CHECK, CHOOSE, CLEAR, COST, COUNTER, DIGITS, EXECUTE,
                          EXECUTE_PLAN, FIRST_TEXT, LIST, LOAD, MOVES, ORDER, PLAN, PRINT, SET, STATE,
                          call, last, machine_text, numeral, run)
from turncarriage.machine import answers


class Examples(unittest.TestCase):
    def test_examples_in_order(self):
        found = run((SET, "7"), (MOVES, "19"), (COST, "19"), (EXECUTE_PLAN, "19"), (STATE,),
                    (CHECK, "-1", [2]), (PLAN, "90"), (DIGITS, 1, "19"), (LIST, "19 -1"))
        self.assertEqual(found, [
            [0],
            [4, 2, 3, 1, 1],
            [0, 1, 52],
            [0, 1, 1, 52],
            [1, 1, 55, 3, 49, 51, 51, 2, 49, 57, 1, 53],
            [0],
            [1, 1, 2, 1, 2, 2, 45, 49, 1, 49],
            [2, 2, 45, 49, 1, 50],
            [0, 1, 55],
        ])

    def test_the_same_moves_one_by_one(self):
        found = run((SET, "7"), (EXECUTE, [2, 3, 1, 1]), (ACCUMULATOR,), (COUNTER,), (STATE,))
        self.assertEqual(found[1:], [[0, 1, 1, 52], [0, 3, 49, 51, 51], [0, 2, 49, 57],
                                     [1, 1, 55, 3, 49, 51, 51, 2, 49, 57, 1, 53]])

    def test_example_of_a_syntax_error(self):
        self.assertEqual(last((LOAD, "desk  a")), [-1005])


class ListOfCalls(unittest.TestCase):
    def test_flat_form(self):
        self.assertEqual(answers([3]), [3, 0, 1, 48])
        self.assertEqual(answers([1, 1, 55, 5, 3, 5, 1, 7, 2, 49, 57]),
                         [1, 0, 1, -2, 1, 0, 5, 4, 2, 3, 1, 1])
        self.assertEqual(answers([2, 0, 4]), [4, 0, 0, 1, 48, 3, 0, 1, 48])
        self.assertEqual(answers([7, 1, 48, 8, 1, 48]), [1, 0, 1, 0])
        self.assertEqual(answers([0, 0]), [1, -1000])
        # check_moves, list_cost, best_order, choose_multiplier
        self.assertEqual(answers([9, 1, 49, 1, 1, 9, 1, 49, 0, 9, 0, 1, 1]), [3, 1, 1, 49, 1, 0, 1, -5])
        self.assertEqual(answers([10, 0, 10, 3, 49, 32, 49]), [3, 0, 1, 48, 3, 0, 1, 52])
        self.assertEqual(answers([11, 0, 11, 3, 49, 32, 49]), [1, 0, 3, 2, 0, 1])
        self.assertEqual(answers([12, 1, 49, 1, 50, 12, 1, 50, 1, 49]), [3, 1, 1, 49, 3, 2, 1, 49])
        # state, print_machine, execute_plan, signed_digits, cost_by_position
        self.assertEqual(answers([13, 14])[:13], [9, 0, 1, 48, 1, 48, 1, 48, 1, 48, 61, 0, 59])
        self.assertEqual(answers([15, 1, 49, 15, 1, 48]), [4, 0, 0, 1, 49, 4, 0, 0, 1, 48])
        self.assertEqual(answers([16, 1, 1, 51, 16, -1, 1, 51]), [5, 2, 1, 51, 1, 48, 1, -2])
        self.assertEqual(answers([17, 0, 3]), [9, 6, 1, 1, 48, 0, 0, 0, 0, 0, 3, 0, 1, 48])

    def test_a_new_machine_for_each_list(self):
        first = run((LOAD, machine_text(base=2)), (SET, "7"), (EXECUTE, [1, 3, 1]))
        again = run((ACCUMULATOR,), (COUNTER,), (EXECUTE, []), (COST, "19"), (SET, "999999999999"))
        self.assertEqual(run((STATE,), (PRINT,)),
                         [[0] + numeral(0) * 4, [0, 59] + list(FIRST_TEXT.encode("ascii"))])
        self.assertEqual(first[-1], [0, 1] + numeral(3))
        self.assertEqual(again, [[0, 1, 48], [0, 1, 48], [0, 0, 1, 48], [0, 1, 52], [0]])

    def test_initial_machine_is_the_one_of_the_text(self):
        self.assertEqual(run((COST, "123456"), (SET, "1000000000000"), (SET, "999999999999"),
                             (EXECUTE, [3] * 5), (EXECUTE, [3]), (EXECUTE, [1])),
                         run((LOAD, FIRST_TEXT), (COST, "123456"), (SET, "1000000000000"),
                             (SET, "999999999999"), (EXECUTE, [3] * 5), (EXECUTE, [3]),
                             (EXECUTE, [1]))[1:])

    def test_what_is_handed_in_stays(self):
        calls = (call(LOAD, machine_text()) + call(SET, "12") + call(EXECUTE, [1, 3, 2])
                 + call(MOVES, "-77") + call(PLAN, "500") + call(CLEAR, 1) + call(SET, [-1, 256])
                 + call(CHECK, "9", [4, 1]) + call(LIST, "3 -40 0") + call(ORDER, "3 -40 0")
                 + call(CHOOSE, "7", "8") + call(STATE) + call(PRINT) + call(EXECUTE_PLAN, "12")
                 + call(DIGITS, 3, "77") + call(BY_POSITION, "3 -40 0") + call(ORDER, [-1, 256]))
        kept = list(calls)
        answers(calls)
        self.assertEqual(calls, kept)

    def test_whole_numbers_and_no_truth_values(self):
        calls = (call(PLAN, "19") + call(PLAN, "0") + call(EXECUTE, [3, 1]) + call(MOVES, "-4")
                 + call(COST, "0") + call(CLEAR, 9) + call(LOAD, "") + call(SET, "5")
                 + call(CHECK, "1", [1]) + call(CHECK, "1", [2]) + call(LIST, "1 2") + call(ORDER, "1 2")
                 + call(CHOOSE, "1", "2") + call(CHOOSE, "2", "1") + call(STATE) + call(PRINT)
                 + call(EXECUTE_PLAN, "5") + call(DIGITS, 2, "5") + call(BY_POSITION, "5 0")
                 + call(BY_POSITION, "0"))
        found = answers(calls)
        self.assertIs(type(found), list)
        self.assertEqual({type(number) for number in found}, {int})

    def test_four_hundred_calls(self):
        found = run(*([(SET, "3")] + [(EXECUTE, [1, 1])] * 398 + [(ACCUMULATOR,)]))
        self.assertEqual(found[-1], [0] + numeral(3 * 2 * 398))

    def test_rows_are_as_long_as_their_length_says(self):
        self.assertEqual(run((SET, [48] * 1100), (EXECUTE, [1] * 2100), (COST, [5] * 1100),
                             (COUNTER,), (CHECK, [48] * 1100, [1] * 2100), (CHECK, "1", [1] * 2100),
                             (CHOOSE, [48] * 1100, "1"), (CHOOSE, "1", [48] * 1100), (COUNTER,)),
                         [[-1], [-4], [-1], [0, 1, 48], [-1], [-4], [-1], [-1], [0, 1, 48]])

    def test_outermost_integers(self):
        least, most = -2 ** 63, 2 ** 63 - 1
        for number in (LOAD, SET, COST, MOVES, PLAN, LIST, ORDER, EXECUTE_PLAN, BY_POSITION):
            self.assertEqual(run((number, [least]), (number, [most])), [[-1], [-1]])
        self.assertEqual(run((EXECUTE, [least]), (EXECUTE, [most]), (CLEAR, least), (CLEAR, most)),
                         [[-4], [-4], [-2], [-2]])
        for number in (least, most):
            self.assertEqual(run((CHECK, [number], [1]), (CHECK, "1", [number]), (CHOOSE, [number], "1"),
                                 (CHOOSE, "1", [number]), (DIGITS, number, "1"), (DIGITS, 1, [number])),
                             [[-1], [-4], [-1], [-1], [-2], [-1]])


class RefusedCalls(unittest.TestCase):
    def test_a_refused_call_changes_nothing(self):
        before = [(LOAD, machine_text(base=3, places=5, carriage=3, turn=2, shift=7)),
                  (SET, "5"), (EXECUTE, [1, 3, 1, 1])]
        refused = [(LOAD, "desk b"), (LOAD, [300]), (SET, "243"), (SET, "07"), (SET, [-1]),
                   (EXECUTE, [1, 1, 5]), (EXECUTE, [1, 3, 1, 3]), (EXECUTE, [4, 1, 4]),
                   (EXECUTE, [1] * 2001), (CLEAR, 0), (CLEAR, 3), (COST, "-0"), (MOVES, "1x"),
                   (MOVES, "90000"), (PLAN, ""), (CHECK, "-0", [1]), (CHECK, "1", [1, 0]),
                   (LIST, "1  2"), (LIST, "1 1 1 1 1 1 1 1 1"), (ORDER, "1 1 1 1 1 1"), (ORDER, [-1]),
                   (CHOOSE, "1", "x"), (CHOOSE, "", "1"), (EXECUTE_PLAN, "90000"), (EXECUTE_PLAN, "01"),
                   (DIGITS, 12, "1"), (DIGITS, 1, "1 "), (BY_POSITION, " "), (BY_POSITION, [256])]
        behind = [(STATE,), (PRINT,), (ACCUMULATOR,), (COUNTER,), (PLAN, "4"), (COST, "17"), (LIST, "3 9"),
                  (EXECUTE, [2]), (STATE,), (ACCUMULATOR,)]
        plain = run(*(before + behind))[len(before):]
        self.assertEqual(plain[2:4], [[0] + numeral(35), [0] + numeral(7)])
        for one in refused:
            found = run(*(before + [one] + behind))[len(before):]
            self.assertEqual(len(found[0]), 1, one)
            self.assertLess(found[0][0], 0, one)
            self.assertEqual(found[1:], plain, one)


if __name__ == "__main__":
    unittest.main()

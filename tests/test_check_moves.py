"""check_moves: no moves are made, they are only looked at."""

import unittest

from tests.helper import (CHECK, COST, EXECUTE, LOAD, MOVES, SET, STATE, last, machine_text, numeral,
                          read_state, run, shifted)


def costing(number):
    return [1] + numeral(number)


class Multiplier(unittest.TestCase):
    def test_the_multiplier_and_others(self):
        moves = [2, 3, 1, 1]
        self.assertEqual(last((CHECK, "19", moves)), costing(4))
        for k in ("18", "20", "-19", "0", "9" * 40, "-" + "9" * 40):
            self.assertEqual(last((CHECK, k, moves)), [0], k)

    def test_from_each_position(self):
        load = (LOAD, machine_text(base=7, carriage=12))
        for position in range(12):
            k = 7 ** position
            self.assertEqual(run(load, shifted(position), (CHECK, str(k), [1]), (CHECK, str(-k), [2]),
                                 (CHECK, str(2 * k), [1, 1]), (CHECK, str(7 * k), [1]))[2:],
                             [costing(1), costing(1), costing(2), [0]])

    def test_costs(self):
        load = (LOAD, machine_text(turn=100, shift=7, setting=1000))
        self.assertEqual(run(load, (CHECK, "0", [1, 2]), (CHECK, "0", [3, 4, 3, 4]),
                             (CHECK, "9", [2, 3, 1]), (CHECK, "9", [1] * 9))[1:],
                         [costing(200), costing(28), costing(207), costing(900)])
        free = (LOAD, machine_text(turn=0, shift=0))
        self.assertEqual(last(free, (CHECK, "9", [2, 3, 1])), costing(0))

    def test_moves_that_cost_more_than_the_plan(self):
        self.assertEqual(run((CHECK, "19", [1] * 19), (CHECK, "19", [3, 1, 4] + [1] * 9), (COST, "19")),
                         [costing(19), costing(12), [0] + numeral(4)])

    def test_example(self):
        self.assertEqual(run(shifted(1), (CHECK, "-1", [2]), (CHECK, "-10", [2]))[1:],
                         [[0], costing(1)])

    def test_no_moves(self):
        self.assertEqual(run((CHECK, "0", []), (CHECK, "1", []), (CHECK, "-1", []), shifted(3),
                             (CHECK, "0", []), (CHECK, "1000", [])),
                         [costing(0), [0], [0], [0, 3] + numeral(3), costing(0), [0]])

    def test_accumulator_and_capacity_do_not_matter(self):
        load = (LOAD, machine_text(places=1, carriage=3))
        self.assertEqual(last(load, (SET, "9"), (CHECK, "101", [1, 3, 3, 1])), costing(4))
        self.assertEqual(last(load, (SET, "0"), (CHECK, "1", [3, 3, 1])), [0])


class BeyondTheEnds(unittest.TestCase):
    def test_no_error(self):
        for k, moves in (("0", [4]), ("0", [3] * 6), ("0", [4, 3]), ("0", [3] * 6 + [4] * 6),
                         ("1", [1, 4]), ("1", [1, 4, 3]), ("100000", [3] * 5 + [1, 3])):
            self.assertEqual(last((CHECK, k, moves)), [0], moves)

    def test_up_to_the_ends(self):
        self.assertEqual(last((CHECK, "100000", [3] * 5 + [1])), costing(6))
        self.assertEqual(last(shifted(5), (CHECK, "1", [4] * 5 + [1])), costing(6))
        self.assertEqual(last(shifted(5), (CHECK, "1", [4] * 6 + [1])), [0])

    def test_one_carriage_position(self):
        load = (LOAD, machine_text(carriage=1))
        self.assertEqual(run(load, (CHECK, "0", [3]), (CHECK, "0", [4]), (CHECK, "0", [1, 2]))[1:],
                         [[0], [0], costing(2)])


class Errors(unittest.TestCase):
    def test_number_of_moves(self):
        self.assertEqual(last((CHECK, "2000", [1] * 2000)), costing(2000))
        self.assertEqual(last((CHECK, "2001", [1] * 2001)), [-4])
        self.assertEqual(last((CHECK, "0", [3, 4] * 1000)), costing(2000))
        self.assertEqual(last((CHECK, "0", [3, 4] * 1050)), [-4])

    def test_no_moves_of_the_machine(self):
        for move in (0, 5, -1, 256, 2 ** 63 - 1, -2 ** 63):
            for moves in ([move], [1, move], [move, 1], [4, move], [4] * 1999 + [move]):
                self.assertEqual(last((CHECK, "1", moves)), [-4], moves)

    def test_wrong_integers(self):
        for k in ("", "-", "-0", "00", "01", "-01", "+1", " 1", "1 ", "1 2", "x", "1\n", "9" * 41,
                  "-" + "9" * 41, "1" * 1000):
            self.assertEqual(last((CHECK, k, [1])), [-5], k)
        for k in ([-1], [256], [49, 256], [49] * 1001):
            self.assertEqual(last((CHECK, k, [1])), [-1], k)

    def test_order_of_errors(self):
        for moves in ([0], [5], [1] * 2001, [4]):
            self.assertEqual(last((CHECK, [48, 48, 256], moves)), [-1])
            self.assertEqual(last((CHECK, [97] * 1001, moves)), [-1])
            self.assertEqual(last((CHECK, "-0", moves)), [-5])
            self.assertEqual(last((CHECK, "9" * 41, moves)), [-5])
        # moves that can't be executed come behind moves that are none
        self.assertEqual(last((CHECK, "0", [4, 5])), [-4])


class StateStays(unittest.TestCase):
    def test_unchanged(self):
        before = [(LOAD, machine_text(base=8, turn=3, shift=2, setting=5)), (SET, "7"),
                  (EXECUTE, [1, 3, 1, 1])]
        fields = read_state(last(*before, (STATE,)))
        self.assertEqual(fields, (1, 7, 119, 17, 16))
        for k, moves in (("8", [1]), ("7", [1]), ("0", [4, 4]), ("0", []), ("64", [3, 1]), ("1", [5]),
                         ("-0", [1])):
            found = run(*before, (CHECK, k, moves), (STATE,), (MOVES, "8"))
            self.assertEqual(read_state(found[-2]), fields)
            self.assertEqual(found[-1], [1, 1])


if __name__ == "__main__":
    unittest.main()

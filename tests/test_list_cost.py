"""list_cost, beside searches over sequences of moves."""

import itertools
import unittest

from tests.helper import (COST, EXECUTE_PLAN, LIST, LOAD, last, machine_text, run, searched_costs,
                          shifted, signed_digits_by_words, value, written)

SMALL_COSTS = ((1, 1), (1, 0), (0, 1), (0, 0), (1, 3), (5, 2))


def list_cost(machine, position, integers, setting=0):
    base, carriage, turn, shift = machine
    text = machine_text(base=base, carriage=carriage, turn=turn, shift=shift, setting=setting)
    return value(last((LOAD, text), shifted(position), (LIST, written(integers))))


def cost_of_plans(machine, position, integers, setting=0):
    """What the optimal plans cost one behind another, with the settings."""
    base, carriage, turn, shift = machine
    text = machine_text(base=base, carriage=carriage, turn=turn, shift=shift, setting=setting)
    found = run((LOAD, text), shifted(position), *[(EXECUTE_PLAN, str(k)) for k in integers])[2:]
    return sum(value([0] + answer[2:]) + setting for answer in found)


def way(start, end, lo, hi):
    return hi - lo + min(start - lo + hi - end, hi - start + end - lo)


def cost_by_ranges(machine, position, integers):
    """The least cost by all ranges of positions that the carriage may pass for each integer."""
    base, carriage, turn, shift = machine
    costs = {position: 0}
    for k in integers:
        if k == 0:
            continue
        after = {}
        for lo, hi in itertools.combinations_with_replacement(range(carriage), 2):
            if k % base ** lo != 0:
                continue
            turns = sum(map(abs, signed_digits_by_words(k // base ** lo, base, hi - lo)))
            for start, end in itertools.product(range(lo, hi + 1), repeat=2):
                if start in costs:
                    cost = costs[start] + turn * turns + shift * way(start, end, lo, hi)
                    after[end] = min(cost, after.get(end, cost))
        costs = after
    return min(costs.values())


class Settings(unittest.TestCase):
    def test_each_integer_counts(self):
        for setting in (0, 1, 7, 1000):
            text = machine_text(turn=0, shift=0, setting=setting)
            for integers in ([], [0], [5], [0, 0], [1, 2, 3], [0] * 8, [9] * 8, [0, 5, 0]):
                self.assertEqual(value(last((LOAD, text), (LIST, written(integers)))),
                                 setting * len(integers))

    def test_zeros_cost_nothing_else(self):
        text = machine_text(turn=1000, shift=1000, setting=3)
        self.assertEqual(value(last((LOAD, text), shifted(3), (LIST, "0 0 0"))), 9)
        self.assertEqual(list_cost((10, 6, 1, 1), 2, [0, 19, 0, 0, -1, 0], 10),
                         list_cost((10, 6, 1, 1), 2, [19, -1]) + 60)


class Examples(unittest.TestCase):
    def test_example(self):
        self.assertEqual(list_cost((10, 6, 1, 1), 1, [19, -1], 1), 7)

    def test_one_integer_is_its_minimum_cost(self):
        for base, carriage, turn, shift in ((10, 6, 1, 1), (2, 12, 3, 1), (36, 12, 1, 100)):
            load = (LOAD, machine_text(base=base, carriage=carriage, turn=turn, shift=shift,
                                       setting=4))
            for position in (0, carriage // 2, carriage - 1):
                for k in (1, -1, 19, base ** 3, -12345678, 10 ** 39, 0):
                    found = run(load, shifted(position), (LIST, str(k)), (COST, str(k)))[2:]
                    self.assertEqual(value(found[0]), value(found[1]) + 4)

    def test_by_hand(self):
        # up once for all: 1 at 0, then 10 three times at 1
        self.assertEqual(list_cost((10, 6, 1, 1), 0, [1, 10, 10, 10], 1), 4 + 5)
        # 1 and 100 in turn: the carriage goes to and fro
        self.assertEqual(list_cost((10, 6, 1, 1), 0, [100, 1, 100, 1]), 4 + 8)
        self.assertEqual(list_cost((10, 6, 1, 0), 0, [100, 1, 100, 1]), 4)
        self.assertEqual(list_cost((10, 6, 0, 1), 0, [100, 1, 100, 1]), 0)
        self.assertEqual(list_cost((10, 6, 0, 1), 5, [100, 1, 100, 1]), 3 + 2)


class PlansOneBehindAnother(unittest.TestCase):
    def test_less_than_the_optimal_plans(self):
        # downward the optimal plan for 101 ends at 0, and upward at 2, for the same cost
        machine = (10, 3, 1, 1)
        self.assertEqual(cost_of_plans(machine, 1, [101, 1], 1), 10)
        self.assertEqual(list_cost(machine, 1, [101, 1], 1), 8)

    def test_a_plan_that_is_not_optimal_alone(self):
        # -3 and 1 with a shift cost 13, and 7 turns cost 14, but then the carriage is still at 0
        machine = (10, 2, 2, 5)
        integers = [7, 1, 1]
        self.assertEqual(cost_of_plans(machine, 0, integers), 2 * 4 + 5 + 5 + 2 + 2)
        self.assertEqual(list_cost(machine, 0, integers), 7 * 2 + 2 + 2)

    def test_never_more(self):
        for machine in ((10, 4, 1, 1), (2, 8, 2, 3), (3, 5, 4, 1), (36, 3, 1, 9)):
            base = machine[0]
            for integers in ([19, -1, 19], [base, 1, base ** 2], [7, 0, -7, 77, 5], [base ** 3 - 1] * 4,
                             [11, -base, 5 * base ** 2, 6], [1, 2, 3, 4, 5, 6, 7, 8]):
                for position in range(machine[1]):
                    self.assertLessEqual(list_cost(machine, position, integers, 2),
                                         cost_of_plans(machine, position, integers, 2))


class Search(unittest.TestCase):
    def check(self, machine, position, integers):
        self.assertEqual(list_cost(machine, position, integers, 3),
                         min(searched_costs(machine, position, integers).values()) + 3 * len(integers),
                         (machine, position, integers))

    def test_two_integers(self):
        numbers = (-9, -4, 0, 1, 3, 8, 12)
        for base, carriage in ((2, 1), (2, 3), (3, 2), (3, 3), (10, 2)):
            for turn, shift in SMALL_COSTS:
                machine = (base, carriage, turn, shift)
                for at, integers in enumerate(itertools.product(numbers, repeat=2)):
                    self.check(machine, at % carriage, list(integers))

    def test_longer_lists(self):
        lists = ([5, -5, 5], [1, 9, 1, 9], [8, 0, 8, 1], [27, 26, -1], [18, 2, 18, -2, 9], [4, 7, 11, 13],
                 [0, 16, 0, 0, 3], [1] * 8, [12, 1, 12, 1, 12, 1, 12, 1])
        for base, carriage in ((2, 4), (3, 3), (4, 2), (2, 6)):
            for turn, shift in SMALL_COSTS:
                for at, integers in enumerate(lists):
                    self.check((base, carriage, turn, shift), at % carriage, integers)

    def test_all_positions(self):
        for turn, shift in SMALL_COSTS:
            for position in range(4):
                for integers in ([4, 3], [16, -4, 5], [1, 16], [3, 12, 6]):
                    self.check((2, 4, turn, shift), position, integers)


class Ranges(unittest.TestCase):
    def test_large_machines(self):
        lists = ([10 ** 39, -(10 ** 40 - 1)], [36 ** 11, 1, -36 ** 5, 18 * 36 ** 7 + 18],
                 [2 ** 100, 2 ** 37 - 2 ** 9, 0, 3 * 2 ** 11], [int("45" * 6), 10 ** 11, 55, -10 ** 4],
                 [2 ** 11, 2 ** 5, 1, 2 ** 8])
        for base in (2, 7, 10, 36):
            for turn, shift in ((1, 1), (3, 1000), (1000, 0)):
                for at, integers in enumerate(lists):
                    machine = (base, 12, turn, shift)
                    for position in (0, 4 + at, 11):
                        self.assertEqual(list_cost(machine, position, integers),
                                         cost_by_ranges(machine, position, integers),
                                         (machine, position, integers))


if __name__ == "__main__":
    unittest.main()

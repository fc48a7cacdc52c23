"""Point 1: no sequence of moves that a search finds costs less than the optimal plan.

Point 2 is searched for in test_list_cost.py and test_best_order.py.
"""

import heapq
import unittest

from tests.helper import CHECK, COST, LOAD, MOVES, last, machine_text, run, shifted, value

LARGEST_K = 30


def least_costs(base, carriage, turn, shift, position):
    """By multiplier: the least cost of a sequence of moves from the position."""
    limit = LARGEST_K + 2 * base ** carriage
    costs = {}
    waiting = [(0, position, 0)]
    while waiting:
        cost, at, multiplier = heapq.heappop(waiting)
        if (at, multiplier) in costs:
            continue
        costs[(at, multiplier)] = cost
        weight = base ** at
        steps = [(cost + turn, at, multiplier + weight), (cost + turn, at, multiplier - weight),
                 (cost + shift, at + 1, multiplier), (cost + shift, at - 1, multiplier)]
        for step in steps:
            if 0 <= step[1] < carriage and abs(step[2]) <= limit:
                heapq.heappush(waiting, step)
    least = {}
    for (at, multiplier), cost in costs.items():
        least[multiplier] = min(cost, least.get(multiplier, cost))
    return least


class Search(unittest.TestCase):
    def check(self, base, carriage, turn, shift):
        text = machine_text(base=base, carriage=carriage, turn=turn, shift=shift)
        numbers = range(-LARGEST_K, LARGEST_K + 1)
        for position in range(carriage):
            searched = least_costs(base, carriage, turn, shift, position)
            before = [(LOAD, text), shifted(position)]
            costs = run(*before, *[(COST, str(k)) for k in numbers])[2:]
            moves = run(*before, *[(MOVES, str(k)) for k in numbers])[2:]
            checked = run(*before, *[(CHECK, str(k), one[1:]) for k, one in zip(numbers, moves)])[2:]
            for at, k in enumerate(numbers):
                told = (base, carriage, turn, shift, position, k)
                self.assertEqual(value(costs[at]), searched[k], told)
                self.assertEqual(checked[at], [1] + costs[at][1:], told)

    def test_small_machines(self):
        for base, carriage in ((2, 1), (2, 2), (2, 4), (3, 2), (3, 3), (5, 2), (10, 2)):
            for turn, shift in ((1, 1), (1, 0), (0, 1), (0, 0), (1, 2), (3, 1), (1, 7)):
                self.check(base, carriage, turn, shift)

    def test_zero(self):
        for position in range(3):
            found = run((LOAD, machine_text(carriage=3)), shifted(position), (MOVES, "0"), (COST, "0"),
                        (CHECK, "0", []))[2:]
            self.assertEqual(found, [[0], [0, 1, 48], [1, 1, 48]])


class LargeMachines(unittest.TestCase):
    def test_the_moves_have_the_multiplier_and_the_cost(self):
        for base, carriage, turn, shift in ((10, 12, 1, 1), (2, 12, 1000, 3), (36, 12, 3, 1000), (7, 9, 0, 1)):
            for position in (0, 5, carriage - 1):
                before = [(LOAD, machine_text(base, 40, carriage, turn, shift)), shifted(position)]
                for k in (1, -19, base ** 11, -base ** 8 + 1, 123456789, base ** 4 * 55 - base):
                    cost, moves = run(*before, (COST, str(k)), (MOVES, str(k)))[2:]
                    if moves != [-8]:
                        self.assertEqual(last(*before, (CHECK, str(k), moves[1:])), [1] + cost[1:])
                        self.assertEqual(last(*before, (CHECK, str(k + 1), moves[1:])), [0])


if __name__ == "__main__":
    unittest.main()

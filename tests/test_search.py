"""No sequence of moves that a search finds costs less than the optimal plan."""

import heapq
import unittest

from tests.helper import COST, EXECUTE, LOAD, machine_text, run, value

LARGEST_K = 30


def least_costs(base, carriage, turn, shift, position):
    """By multiplier: the least cost of a sequence of moves from the position."""
    limit = LARGEST_K + 2 * base ** carriage
    costs = {}
    waiting = [(0, position, 0)]
    while waiting:
        cost, at, multiplier = heapq.heappop(waiting)
        if (at, multiplier) in costs:
            continue
        costs[(at, multiplier)] = cost
        weight = base ** at
        steps = [(cost + turn, at, multiplier + weight), (cost + turn, at, multiplier - weight),
                 (cost + shift, at + 1, multiplier), (cost + shift, at - 1, multiplier)]
        for step in steps:
            if 0 <= step[1] < carriage and abs(step[2]) <= limit:
                heapq.heappush(waiting, step)
    least = {}
    for (at, multiplier), cost in costs.items():
        least[multiplier] = min(cost, least.get(multiplier, cost))
    return least


class Search(unittest.TestCase):
    def check(self, base, carriage, turn, shift):
        text = machine_text(base=base, carriage=carriage, turn=turn, shift=shift)
        numbers = range(-LARGEST_K, LARGEST_K + 1)
        for position in range(carriage):
            searched = least_costs(base, carriage, turn, shift, position)
            found = run((LOAD, text), (EXECUTE, [3] * position),
                        *[(COST, str(k)) for k in numbers])[2:]
            for k, answer in zip(numbers, found):
                self.assertEqual(value(answer), searched[k],
                                 (base, carriage, turn, shift, position, k))

    def test_small_machines(self):
        for base, carriage in ((2, 1), (2, 2), (2, 4), (3, 2), (3, 3), (5, 2), (10, 2)):
            for turn, shift in ((1, 1), (1, 0), (0, 1), (0, 0), (1, 2), (3, 1), (1, 7)):
                self.check(base, carriage, turn, shift)


if __name__ == "__main__":
    unittest.main()

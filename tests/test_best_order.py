"""best_order, beside the minimum costs of all orders."""

import itertools
import unittest

from tests.helper import LIST, LOAD, ORDER, last, machine_text, run, searched_costs, shifted, value, written


def load(machine, setting=1):
    base, carriage, turn, shift = machine
    return (LOAD, machine_text(base=base, carriage=carriage, turn=turn, shift=shift, setting=setting))


def best_order(machine, position, integers, setting=1):
    answer = last(load(machine, setting), shifted(position), (ORDER, written(integers)))
    assert answer[0] == len(integers) == len(answer) - 1
    return answer[1:]


def reordered(integers, order):
    return [integers[at] for at in order]


class ByHand(unittest.TestCase):
    def test_few_integers(self):
        machine = (10, 6, 1, 1)
        self.assertEqual(best_order(machine, 0, []), [])
        self.assertEqual(best_order(machine, 0, [7]), [0])
        self.assertEqual(best_order(machine, 0, [0]), [0])
        self.assertEqual(best_order(machine, 0, [100, 1]), [1, 0])
        self.assertEqual(best_order(machine, 2, [1, 100]), [1, 0])

    def test_up_through_all(self):
        machine = (10, 6, 1, 1)
        integers = [1000, 1, 10000, 10, 100]
        self.assertEqual(best_order(machine, 0, integers), [1, 3, 4, 0, 2])
        self.assertEqual(best_order(machine, 5, integers), [2, 0, 4, 3, 1])

    def test_ties(self):
        # with shifts that cost nothing all orders cost the same
        for integers in ([1, 10, 100, 1000, 1], [5, -5, 0, 5, 7], [3, 3, 3]):
            self.assertEqual(best_order((10, 6, 1, 0), 3, integers), list(range(len(integers))))
            self.assertEqual(best_order((10, 1, 1, 1), 0, integers), list(range(len(integers))))
        # from 1, 0 and 2 are equally near, and so the first index decides
        self.assertEqual(best_order((10, 3, 1, 1), 1, [1, 100]), [0, 1])
        self.assertEqual(best_order((10, 3, 1, 1), 1, [100, 1]), [0, 1])

    def test_equal_integers(self):
        self.assertEqual(best_order((10, 6, 1, 1), 0, [100, 1, 100, 1, 100]), [1, 3, 0, 2, 4])
        self.assertEqual(best_order((10, 6, 1, 1), 2, [1, 100, 1, 100, 1]), [1, 3, 0, 2, 4])
        self.assertEqual(best_order((10, 6, 1, 1), 2, [7] * 5), [0, 1, 2, 3, 4])

    def test_zeros_go_anywhere(self):
        self.assertEqual(best_order((10, 6, 1, 1), 0, [0, 100, 0, 1]), [0, 2, 3, 1])
        self.assertEqual(best_order((10, 6, 1, 1), 0, [100, 0, 1, 0]), [1, 2, 0, 3])
        self.assertEqual(best_order((10, 6, 1, 1), 4, [0] * 5), [0, 1, 2, 3, 4])


class AllOrders(unittest.TestCase):
    def check(self, machine, position, integers, setting=1):
        orders = list(itertools.permutations(range(len(integers))))
        found = run(load(machine, setting), shifted(position),
                    *[(LIST, written(reordered(integers, order))) for order in orders])[2:]
        # of equal costs the first order is the lexicographically smallest one
        cheapest = min(zip(map(value, found), orders))[1]
        self.assertEqual(best_order(machine, position, integers, setting), list(cheapest),
                         (machine, position, integers))

    def test_beside_list_cost(self):
        lists = ([19, -1, 500, 42], [101, 10, -99], [9, 90, 900, 9000], [7, 0, 70, 7, -700], [1, 1000, 11],
                 [1000, 100, 10, 1, 0], [55, 550, 5, 5500, 55])
        for machine in ((10, 6, 1, 1), (2, 7, 3, 2), (3, 4, 0, 1), (8, 3, 1, 7), (10, 6, 1, 0)):
            for at, integers in enumerate(lists):
                self.check(machine, at % machine[1], integers, at)

    def test_large_machines(self):
        integers = [10 ** 39, 36 ** 11, -(10 ** 40 - 1), 2 ** 60, 10 ** 20]
        for machine in ((36, 12, 1, 1000), (2, 12, 1, 1000), (10, 12, 1000, 1)):
            for position in (0, 6, 11):
                self.check(machine, position, integers)

    def test_beside_a_search(self):
        for turn, shift in ((1, 1), (0, 1), (1, 4)):
            for position in range(3):
                machine = (3, 3, turn, shift)
                for integers in ([9, 1, 5], [10, 3, 9], [-9, 18, 2, 0], [1, 9, 1, 9]):
                    orders = itertools.permutations(range(len(integers)))
                    searched = min((min(searched_costs(machine, position, reordered(integers, order))
                                        .values()), order) for order in orders)
                    self.assertEqual(best_order(machine, position, integers), list(searched[1]),
                                     (machine, position, integers))


if __name__ == "__main__":
    unittest.main()

"""choose_multiplier."""

import unittest

from tests.helper import (CHOOSE, COST, EXECUTE, LOAD, SET, STATE, last, machine_text, numeral, run,
                          shifted)


class Chosen(unittest.TestCase):
    def test_a_costs_less(self):
        self.assertEqual(last((CHOOSE, "19", "55")), [1] + numeral(4))
        self.assertEqual(last((CHOOSE, "-1", "2")), [1] + numeral(1))

    def test_k_costs_less(self):
        self.assertEqual(last((CHOOSE, "55", "19")), [2] + numeral(4))
        self.assertEqual(last((CHOOSE, "99", "-1")), [2] + numeral(1))

    def test_the_same_cost(self):
        for a, k in (("19", "19"), ("5", "-5"), ("7", "13"), ("2", "10"), ("0", "0")):
            found = run((COST, a), (COST, k), (CHOOSE, a, k), (CHOOSE, k, a))
            self.assertEqual(found[0], found[1])
            self.assertEqual(found[2:], [[2] + found[0][1:]] * 2)

    def test_zero(self):
        self.assertEqual(last((CHOOSE, "0", "1")), [1] + numeral(0))
        self.assertEqual(last((CHOOSE, "1", "0")), [2] + numeral(0))
        self.assertEqual(last((CHOOSE, "0", "0")), [2] + numeral(0))
        free = (LOAD, machine_text(turn=0, shift=0))
        self.assertEqual(run(free, (CHOOSE, "0", "1"), (CHOOSE, "1", "0"))[1:], [[2] + numeral(0)] * 2)

    def test_from_the_current_position(self):
        self.assertEqual(run((CHOOSE, "1", "1000"), shifted(3), (CHOOSE, "1", "1000"))[::2],
                         [[1] + numeral(1), [2] + numeral(1)])

    def test_beside_minimum_cost(self):
        numbers = ("1", "-9", "64", "512", "-4000", "123456789", "9" * 40, "-" + "1" * 40)
        for base, carriage, turn, shift in ((8, 5, 3, 10), (2, 12, 1, 1), (36, 12, 1000, 1000)):
            load = (LOAD, machine_text(base=base, carriage=carriage, turn=turn, shift=shift))
            for position in (0, 4):
                costs = run(load, shifted(position), *[(COST, k) for k in numbers])[2:]
                for a, cost_of_a in zip(numbers, costs):
                    chosen = run(load, shifted(position), *[(CHOOSE, a, k) for k in numbers])[2:]
                    for cost_of_k, answer in zip(costs, chosen):
                        number_a, number_k = [int(bytes(cost[2:])) for cost in (cost_of_a, cost_of_k)]
                        if number_a < number_k:
                            self.assertEqual(answer, [1] + numeral(number_a))
                        else:
                            self.assertEqual(answer, [2] + numeral(number_k))

    def test_nothing_is_changed(self):
        before = [(SET, "7"), (EXECUTE, [3, 1])]
        state = last(*before, (STATE,))
        for a, k in (("19", "55"), ("1", "-0"), ("x", "1"), ("0", "0")):
            self.assertEqual(last(*before, (CHOOSE, a, k), (STATE,)), state)


class Errors(unittest.TestCase):
    def test_forms(self):
        for wrong in ("", "-", "-0", "00", "01", "-01", "+1", " 1", "1 ", "1 2", "x", "9" * 41, "1" * 1000):
            self.assertEqual(last((CHOOSE, wrong, "1")), [-5], wrong)
            self.assertEqual(last((CHOOSE, "1", wrong)), [-5], wrong)
            self.assertEqual(last((CHOOSE, wrong, wrong)), [-5], wrong)

    def test_no_bytes(self):
        for wrong in ([-1], [256], [49, 300], [49] * 1001):
            self.assertEqual(last((CHOOSE, wrong, "1")), [-1], wrong)
            self.assertEqual(last((CHOOSE, "1", wrong)), [-1], wrong)

    def test_those_of_a_before_those_of_k(self):
        self.assertEqual(last((CHOOSE, "-0", [256])), [-5])
        self.assertEqual(last((CHOOSE, "9" * 41, [49] * 1001)), [-5])
        self.assertEqual(last((CHOOSE, [256], "-0")), [-1])
        self.assertEqual(last((CHOOSE, [49] * 1001, "x")), [-1])
        self.assertEqual(last((CHOOSE, "0", [48, 48, 256])), [-1])
        self.assertEqual(last((CHOOSE, [48, 48, 256], "0")), [-1])

    def test_forty_digits(self):
        self.assertEqual(last((CHOOSE, "9" * 40, "1" + "0" * 39)), [2] + numeral(10 ** 34 + 5))
        self.assertEqual(last((CHOOSE, "-1" + "0" * 39, "-" + "9" * 40)), [1] + numeral(10 ** 34 + 5))


if __name__ == "__main__":
    unittest.main()

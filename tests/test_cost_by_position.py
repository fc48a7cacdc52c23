"""cost_by_position, beside a search over all plans."""

import unittest

from tests.helper import (BY_POSITION, COST, LIST, LOAD, last, machine_text, numeral, plans_by_words,
                          read_ends, run, shifted, value, written)


def load(machine, setting=1):
    base, carriage, turn, shift = machine
    return (LOAD, machine_text(base=base, carriage=carriage, turn=turn, shift=shift, setting=setting))


def ends(machine, position, integers, setting=1):
    return read_ends(last(load(machine, setting), shifted(position), (BY_POSITION, written(integers))))


def searched_ends(machine, position, integers):
    """By all plans for the first integer, then all for the second, and so on."""
    base, carriage, turn, shift = machine
    least = [None] * carriage
    waiting = [(0, 0, position)]
    while waiting:
        done, cost, at = waiting.pop()
        if done == len(integers):
            if least[at] is None or cost < least[at]:
                least[at] = cost
        elif integers[done] == 0:
            waiting.append((done + 1, cost, at))
        else:
            for more, lo, hi, upward, digits in plans_by_words(integers[done], *machine, at):
                waiting.append((done + 1, cost + more, hi if upward else lo))
    return least


def ends_one_by_one(machine, position, integers):
    """The same with the least costs kept after each integer."""
    costs = {position: 0}
    for k in integers:
        if k == 0:
            continue
        after = {}
        for start, cost in costs.items():
            for more, lo, hi, upward, digits in plans_by_words(k, *machine, start):
                end = hi if upward else lo
                after[end] = min(cost + more, after.get(end, cost + more))
        costs = after
    return [costs.get(end) for end in range(machine[1])]


class NoPlans(unittest.TestCase):
    def test_the_current_position_alone(self):
        for carriage in (1, 2, 12):
            for position in range(carriage):
                for integers in ([], [0], [0] * 8):
                    least = [None] * carriage
                    least[position] = 0
                    self.assertEqual(ends((10, carriage, 1, 1), position, integers, 9), least)

    def test_as_it_is_answered(self):
        self.assertEqual(run(shifted(2), (BY_POSITION, ""), (BY_POSITION, "0"))[1:],
                         [[6, 0, 0, 1, 1, 48, 0, 0, 0]] * 2)


class ByHand(unittest.TestCase):
    def test_as_it_is_answered(self):
        load_small = (LOAD, machine_text(carriage=2))
        # 19 turns at 0; -1 and 2, upward or (with a shift to 1 ahead) downward
        self.assertEqual(run(load_small, (BY_POSITION, "19"), (BY_POSITION, "-100"))[1:],
                         [[2, 1] + numeral(5) + [1] + numeral(4), [2, 1] + numeral(12) + [1] + numeral(11)])

    def test_multiples_of_powers(self):
        # one turn at 3; a digit 0 at each end of the plan, if the carriage ends at 4 or below 3
        self.assertEqual(ends((10, 5, 1, 1), 0, [1000]), [7, 6, 5, 4, 5])
        # to 3 and back
        self.assertEqual(ends((10, 5, 1, 1), 4, [1000]), [5, 4, 3, 2, 3])
        # no plan has a lo above 1, so the carriage gets to 3 as the hi of an upward plan alone
        self.assertEqual(ends((10, 4, 1, 1), 3, [10]), [4, 3, 4, 5])

    def test_settings_do_not_count(self):
        self.assertEqual(ends((10, 6, 1, 1), 2, [19, 0, -1], 0), ends((10, 6, 1, 1), 2, [19, 0, -1], 1000))

    def test_zeros_are_skipped(self):
        for integers in ([0, 19, -1], [19, 0, -1], [19, -1, 0], [0, 19, 0, 0, -1, 0]):
            self.assertEqual(ends((10, 6, 3, 2), 4, integers), ends((10, 6, 3, 2), 4, [19, -1]))

    def test_one_carriage_position(self):
        self.assertEqual(ends((10, 1, 3, 5), 0, [19, -2, 100]), [3 * 121])
        self.assertEqual(ends((2, 1, 1000, 5), 0, [-(10 ** 40 - 1)] * 8), [8000 * (10 ** 40 - 1)])

    def test_costs_of_zero(self):
        self.assertEqual(ends((10, 4, 0, 0), 2, [19, -1]), [0] * 4)
        # turns cost nothing: the ways alone, down to 0 for the 1 at the end of 19
        self.assertEqual(ends((10, 4, 0, 1), 2, [19]), [2, 3, 4, 5])
        self.assertEqual(ends((10, 4, 1, 0), 2, [19]), [3, 3, 3, 3])
        self.assertEqual(ends((10, 4, 1, 0), 2, [1000]), [1, 1, 1, 1])

    def test_shifts_behind_the_last_turn(self):
        # the plan has digits that are 0 at its end
        self.assertEqual(ends((10, 6, 1, 1), 0, [5])[0], 5)
        self.assertEqual(ends((10, 6, 1, 1), 0, [1]), [1, 2, 3, 4, 5, 6])


class BesideTheWords(unittest.TestCase):
    def test_all_plans_one_behind_another(self):
        lists = ([5], [-8, 3], [9, 18, 27], [0, 12, 0, 1], [6, -6, 6], [16, 1, 8], [-1, 0])
        for base, carriage in ((2, 1), (2, 3), (3, 2), (3, 3), (10, 2)):
            for turn, shift in ((1, 1), (0, 1), (1, 0), (0, 0), (2, 3)):
                machine = (base, carriage, turn, shift)
                for position in range(carriage):
                    for integers in lists:
                        self.assertEqual(ends(machine, position, integers),
                                         searched_ends(machine, position, integers),
                                         (machine, position, integers))

    def test_each_position(self):
        for machine in ((10, 5, 1, 1), (2, 6, 1, 2), (7, 4, 3, 1)):
            base, carriage = machine[:2]
            lists = [[base ** at, base + 1] for at in range(carriage + 1)]
            lists.extend([[19, -1, 400], [base ** 3 * 2, base ** 2, -base, 1], [-base ** 2] * 8,
                          [1, 2, 3, 4, 5, 6, 7, 8], [base ** 4 - 1, 0, base // 2 * base ** 2]])
            for position in range(carriage):
                for integers in lists:
                    self.assertEqual(ends(machine, position, integers),
                                     ends_one_by_one(machine, position, integers),
                                     (machine, position, integers))

    def test_large_machines(self):
        for base in (2, 10, 36):
            for turn, shift in ((1, 1), (1, 1000), (1000, 0), (0, 1000)):
                machine = (base, 12, turn, shift)
                for position in (0, 7, 11):
                    for integers in ([base ** 11 * 5, -base ** 6], [10 ** 39, 1], [-(10 ** 40 - 1)],
                                     [2 ** 50 * 3 ** 20]):
                        self.assertEqual(ends(machine, position, integers),
                                         ends_one_by_one(machine, position, integers),
                                         (machine, position, integers))


class BesideOtherCalls(unittest.TestCase):
    def test_the_cheapest_end(self):
        for machine in ((10, 6, 1, 1), (2, 12, 3, 2), (36, 12, 1, 40), (7, 3, 0, 1)):
            for integers in ([19], [1000], [-5, 60, 7], [10 ** 30, 0, 2 ** 40], [4] * 8):
                for position in (0, machine[1] - 1):
                    found = run(load(machine, 5), shifted(position), (BY_POSITION, written(integers)),
                                (LIST, written(integers)), (COST, str(integers[0])))[2:]
                    cheapest = min(read_ends(found[0]))
                    # what is left to be shifted behind the last turn belongs to the next one
                    self.assertEqual(value(found[1]), cheapest + 5 * len(integers))
                    if len(integers) == 1:
                        self.assertEqual(value(found[2]), cheapest)


if __name__ == "__main__":
    unittest.main()

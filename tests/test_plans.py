"""minimum_cost, optimal_moves and optimal_plan, beside plans made from the document's words."""

import unittest

from tests.helper import (ACCUMULATOR, COST, COUNTER, EXECUTE, LOAD, MOVES, PLAN, SET, last,
                          machine_text, numeral, plans_by_words, read_plan, run, shifted)


def plan_by_words(*given):
    """(cost, lo, hi, upward, digits) of the optimal plan."""
    # of equal costs min takes the first one
    return min(plans_by_words(*given), key=lambda plan: plan[0])


def move_count(plan, position):
    cost, lo, hi, upward, digits = plan
    return abs(position - (lo if upward else hi)) + hi - lo + sum(map(abs, digits))


def moves_by_words(plan, position):
    cost, lo, hi, upward, digits = plan
    moves = []
    first = lo if upward else hi
    moves += [3 if first > position else 4] * abs(first - position)
    for place in range(lo, hi + 1) if upward else range(hi, lo - 1, -1):
        if place != first:
            moves.append(3 if upward else 4)
        moves += [1 if digits[place - lo] > 0 else 2] * abs(digits[place - lo])
    return moves


class BesideTheWords(unittest.TestCase):
    def check(self, machine, position, numbers):
        base, carriage, turn, shift = machine
        text = machine_text(base=base, carriage=carriage, turn=turn, shift=shift)
        for k in numbers:
            words = plan_by_words(k, base, carriage, turn, shift, position)
            cost, found_moves, plan = run((LOAD, text), shifted(position), (COST, str(k)),
                                          (MOVES, str(k)), (PLAN, str(k)))[2:]
            told = (machine, position, k)
            self.assertEqual(cost, [0] + numeral(words[0]), told)
            self.assertEqual(read_plan(plan), words[1:], told)
            if move_count(words, position) > 2000:
                self.assertEqual(found_moves, [-8], told)
            else:
                moves = moves_by_words(words, position)
                self.assertEqual(found_moves, [len(moves)] + moves, told)

    def test_small_machines_from_each_position(self):
        numbers = [k for k in range(-70, 71) if k != 0]
        for base, carriage in ((2, 4), (3, 3), (10, 2), (36, 2)):
            for turn, shift in ((1, 1), (0, 0), (0, 1), (1, 0), (1, 3), (5, 2)):
                for position in range(carriage):
                    self.check((base, carriage, turn, shift), position, numbers)

    def test_multiples_of_high_powers(self):
        for base, carriage in ((2, 8), (10, 6), (36, 4)):
            numbers = []
            for exponent in range(carriage + 2):
                for factor in (1, -1, base // 2, -(base // 2), base - 1, base + 1, 7 * base // 2):
                    numbers.append(factor * base ** exponent)
            for turn, shift in ((1, 1), (0, 1), (1, 0), (2, 9)):
                for position in (0, 1, carriage // 2, carriage - 1):
                    self.check((base, carriage, turn, shift), position,
                               [k for k in numbers if k != 0])

    def test_long_numbers(self):
        numbers = [int("5" * 11), -int("45" * 6), 10 ** 39, -(10 ** 40 - 1), int("94" * 20),
                   2 ** 100 - 2 ** 37, -36 ** 20, 36 ** 25 - 18 * 36 ** 7]
        for base in (2, 7, 10, 36):
            for position in (0, 5, 11):
                self.check((base, 12, 1, 1), position, numbers)

    def test_one_carriage_position(self):
        for base in (2, 10, 36):
            for turn, shift in ((1, 1), (0, 0), (7, 0)):
                self.check((base, 1, turn, shift), 0, [1, -1, 19, 2000, 2001, -2001, 10 ** 39])


class Ties(unittest.TestCase):
    def plan(self, k, position=0, **fields):
        return read_plan(last((LOAD, machine_text(**fields)), shifted(position), (PLAN, str(k))))

    def test_all_costs_zero(self):
        self.assertEqual(self.plan(1000, 3, turn=0, shift=0), (0, 0, 1, [1000]))

    def test_smallest_lo_before_smallest_hi(self):
        # free shifts: lo = 0 with hi = 2, not lo = hi = 2
        self.assertEqual(self.plan(100, shift=0), (0, 2, 1, [0, 0, 1]))
        # the way up to 2 costs the same from lo = 0, 1 and 2
        self.assertEqual(self.plan(100), (0, 2, 1, [0, 0, 1]))
        # from above it does not
        self.assertEqual(self.plan(100, 4), (2, 2, 1, [1]))

    def test_smallest_hi(self):
        # 5 turns at 0; 5 below 10 and 1 at 1 cost more
        self.assertEqual(self.plan(5, shift=0), (0, 0, 1, [5]))
        self.assertEqual(self.plan(5, shift=0, carriage=12), (0, 0, 1, [5]))
        # 11 turns, or 1 and 1 with a shift that costs as much as 9 turns
        self.assertEqual(self.plan(11, shift=9), (0, 0, 1, [11]))
        self.assertEqual(self.plan(11, shift=8), (0, 1, 1, [1, 1]))

    def test_upward_before_downward(self):
        # as far from 0 as from 2
        self.assertEqual(self.plan(101, 1), (0, 2, 1, [1, 0, 1]))
        self.assertEqual(self.plan(101, 2), (0, 2, 0, [1, 0, 1]))
        self.assertEqual(self.plan(101, 2, shift=0), (0, 2, 1, [1, 0, 1]))
        self.assertEqual(self.plan(5, 4), (0, 0, 1, [5]))
        self.assertEqual(self.plan(7, 4), (0, 1, 0, [-3, 1]))

    def test_signed_digits(self):
        # 6 is 6 turns or -4 and 1 with a shift; 16 is 6 and 1 or -4 and 2
        self.assertEqual(self.plan(16), (0, 1, 1, [-4, 2]))
        self.assertEqual(self.plan(15, shift=0), (0, 1, 1, [5, 1]))
        self.assertEqual(self.plan(-15, shift=0), (0, 1, 1, [-5, -1]))
        # 3 is 1 + 2 or -1 + 4, and -3 is 1 - 4 or -1 - 2
        self.assertEqual(self.plan(3, base=2, carriage=3, shift=0), (0, 1, 1, [1, 1]))
        self.assertEqual(self.plan(-3, base=2, carriage=3, shift=0), (0, 1, 1, [-1, -1]))
        self.assertEqual(self.plan(-3, base=2, carriage=3, turn=0, shift=0), (0, 0, 1, [-3]))

    def test_ties_of_digits_in_one_plan(self):
        # 45 with 3 places: 5 4 0 has 9; -5 5 0 has 10; 5 -6 1 has 12
        self.assertEqual(self.plan(45), (0, 1, 1, [5, 4]))
        # 55: 5 5 0 and -5 6 0 and 5 -5 1: the first of 10 and the third of 11
        self.assertEqual(self.plan(55), (0, 1, 1, [5, 5]))
        # 65: 5 6 0 and -5 7 0 against 5 -4 1 and -5 -3 1 (9)
        self.assertEqual(self.plan(65, shift=0), (0, 2, 1, [-5, -3, 1]))
        # -65: 5 3 -1 is the same with the other signs
        self.assertEqual(self.plan(-65, shift=0), (0, 2, 1, [5, 3, -1]))


class Zero(unittest.TestCase):
    def test_no_moves_and_no_cost(self):
        for load in (machine_text(), machine_text(turn=0), machine_text(base=36, carriage=12)):
            for position in (0, 3, 5):
                self.assertEqual(run((LOAD, load), shifted(position), (COST, "0"), (MOVES, "0"),
                                     (PLAN, "0"))[2:],
                                 [[0] + numeral(0), [0], [0]])


class Forms(unittest.TestCase):
    def check(self, k, code):
        for number in (COST, MOVES, PLAN):
            self.assertEqual(last((number, k)), [code], (number, k))

    def test_wrong_forms(self):
        for text in ("", "-", "-0", "00", "01", "-01", "--1", "+1", " 1", "1 ", "1 2", "1\n",
                     "1-", "a", "1a", "-a", "1.0", "\xff", "/", ":"):
            self.check(text, -5)

    def test_too_many_digits(self):
        for text in ("9" * 41, "-" + "9" * 41, "1" + "0" * 40, "9" * 300, "9" * 301, "9" * 1000,
                     "-" + "9" * 999):
            self.check(text, -5)

    def test_forty_digits(self):
        for sign in ("", "-"):
            k = sign + "9" * 40
            self.assertEqual(last((COST, k)),
                             [0] + numeral(10 ** 35 + 1 + 5))
            self.assertEqual(last((MOVES, k)), [-8])
            high = -10 ** 35 if sign else 10 ** 35
            low = 1 if sign else -1
            self.assertEqual(read_plan(last((PLAN, k))), (0, 5, 1, [low, 0, 0, 0, 0, high]))

    def test_no_bytes(self):
        for k in ([-1], [256], [49, 256], [45, -1], [48] * 1001, [57] * 1100):
            self.check(k, -1)

    def test_no_bytes_before_the_form(self):
        self.check([48, 48, 256], -1)
        self.check([97] * 1001, -1)
        self.check([97] * 1000, -5)


class Lengths(unittest.TestCase):
    def test_turns_alone(self):
        load = (LOAD, machine_text(base=2, places=1, carriage=1))
        for k, move in (("2000", 1), ("-2000", 2)):
            self.assertEqual(last(load, (MOVES, k)), [2000] + [move] * 2000)
        for k in ("2001", "-2001", "9" * 40):
            self.assertEqual(last(load, (MOVES, k)), [-8])
            self.assertEqual(last(load, (COST, k)), [0] + numeral(abs(int(k))))
            self.assertEqual(read_plan(last(load, (PLAN, k))), (0, 0, 1, [int(k)]))

    def test_turns_and_shifts(self):
        load = (LOAD, machine_text(base=10, carriage=4))
        # three shifts and the turns at the highest position
        self.assertEqual(last(load, (MOVES, "1997000")), [2000] + [3] * 3 + [1] * 1997)
        self.assertEqual(last(load, (MOVES, "1998000")), [-8])
        self.assertEqual(last(load, (MOVES, "-1996001")), [2000, 2, 3, 3, 3] + [2] * 1996)
        self.assertEqual(last(load, (MOVES, "-1997001")), [-8])

    def test_shifts_to_the_beginning_count(self):
        load = (LOAD, machine_text(base=10, carriage=3, turn=0, shift=1))
        self.assertEqual(last(load, shifted(2), (MOVES, "1998")), [2000, 4, 4] + [1] * 1998)
        self.assertEqual(last(load, shifted(2), (MOVES, "1999")), [-8])

    def test_no_shifts_where_the_carriage_stands(self):
        load = (LOAD, machine_text(base=10, carriage=4))
        self.assertEqual(last(load, shifted(3), (MOVES, "2000000")), [2000] + [1] * 2000)
        self.assertEqual(last(load, shifted(3), (MOVES, "2001000")), [-8])

    def test_an_optimal_plan_that_is_too_long_is_not_replaced(self):
        # all plans cost nothing, and the optimal one has all turns at 0
        load = (LOAD, machine_text(turn=0, shift=0))
        self.assertEqual(last(load, (MOVES, "3000")), [-8])
        self.assertEqual(last(load, (COST, "3000")), [0] + numeral(0))

    def test_longest_answers_of_many_calls(self):
        load = (LOAD, machine_text(base=36, carriage=12, places=40))
        found = run(load, *[(MOVES, str(1980 * 36 ** 11))] * 200)
        self.assertEqual(found[1:], [[1991] + [3] * 11 + [1] * 1980] * 200)


class Executed(unittest.TestCase):
    def test_the_moves_have_the_multiplier_and_the_cost(self):
        for base, carriage, turn, shift in ((10, 6, 1, 1), (2, 12, 3, 2), (36, 12, 1, 40),
                                            (7, 5, 0, 1), (3, 9, 1, 0)):
            load = (LOAD, machine_text(base=base, carriage=carriage, turn=turn, shift=shift))
            for k in (1, -1, 19, -19, 1234, 55555, -90909, base ** 3, -5 * base ** 4):
                for position in range(carriage):
                    before = (load, (SET, "1"), shifted(position))
                    cost, moves, plan = run(*before, (COST, str(k)), (MOVES, str(k)),
                                            (PLAN, str(k)))[3:]
                    if moves == [-8]:
                        continue
                    lo, hi, upward, digits = read_plan(plan)
                    found = run(*before, (EXECUTE, moves[1:]), (COUNTER,), (ACCUMULATOR,))[3:]
                    self.assertEqual(moves[0], len(moves) - 1)
                    self.assertEqual(found[0], [0, hi if upward else lo] + cost[1:])
                    self.assertEqual(found[1], [0] + numeral(k))
                    self.assertEqual(found[2], [0] + numeral(k % base ** 12))

    def test_nothing_is_changed_by_asking(self):
        before = [(SET, "7"), (EXECUTE, [3, 1, 3])]
        asked = [(COST, "19"), (MOVES, "19"), (PLAN, "19")]
        behind = [(ACCUMULATOR,), (COUNTER,), (EXECUTE, [])]
        self.assertEqual(run(*(before + asked + behind))[-3:], run(*(before + behind))[-3:])
        again = run(*(before + asked + asked))
        self.assertEqual(again[2:5], again[5:])

    def test_input_and_capacity_do_not_matter(self):
        self.assertEqual(run((LOAD, machine_text(places=1)), (SET, "9"), (PLAN, "12345"))[2],
                         run((PLAN, "12345"))[0])


if __name__ == "__main__":
    unittest.main()

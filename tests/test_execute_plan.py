"""execute_plan: like execute with the moves of optimal_moves."""

import unittest

from tests.helper import (COST, EXECUTE, EXECUTE_PLAN, LOAD, MOVES, PLAN, SET, STATE, last,
                          machine_text, numeral, read_plan, read_state, run, shifted)


class Executed(unittest.TestCase):
    def test_example(self):
        self.assertEqual(last((SET, "7"), (EXECUTE_PLAN, "19")), [0, 1] + numeral(4))

    def test_zero(self):
        load = (LOAD, machine_text(turn=9, shift=9))
        for position in (0, 2, 5):
            found = run(load, (SET, "3"), shifted(position), (STATE,), (EXECUTE_PLAN, "0"), (STATE,))
            self.assertEqual(found[4], [0, position] + numeral(0))
            self.assertEqual(found[3], found[5])

    def test_upward_and_downward(self):
        # up from 0 it ends at hi; down from 2 it ends at lo
        self.assertEqual(run((SET, "2"), (EXECUTE_PLAN, "101"), (STATE,), (EXECUTE_PLAN, "-101"), (STATE,)),
                         [[0], [0, 2] + numeral(4), [2] + numeral(2) + numeral(202) + numeral(101) + numeral(5),
                          [0, 0] + numeral(4), [0] + numeral(2) + numeral(0) + numeral(0) + numeral(9)])

    def test_the_same_as_execute(self):
        for base, carriage, turn, shift in ((10, 6, 1, 1), (2, 12, 3, 2), (36, 12, 1, 40), (7, 5, 0, 1),
                                            (3, 9, 1, 0)):
            load = (LOAD, machine_text(base, 5, carriage, turn, shift, 3))
            for k in (1, -1, 19, -19, 1234, 55555, -90909, base ** 3, -5 * base ** 4):
                for position in range(carriage):
                    before = (load, (SET, "21"), (EXECUTE, [2, 1, 2]), shifted(position))
                    cost, moves, plan, done, state = run(*before, (COST, str(k)), (MOVES, str(k)),
                                                         (PLAN, str(k)), (EXECUTE_PLAN, str(k)),
                                                         (STATE,))[4:]
                    if moves == [-8]:
                        self.assertEqual(done, [-8])
                        continue
                    lo, hi, upward, digits = read_plan(plan)
                    self.assertEqual(done, [0, hi if upward else lo] + cost[1:])
                    self.assertEqual([done, state],
                                     run(*before, (EXECUTE, moves[1:]), (STATE,))[4:])
                    fields = read_state(state)
                    self.assertEqual(fields[:4],
                                     (done[1], 21, (k - 1) * 21 % base ** 5, k - 1))

    def test_accumulator_modulo_the_capacity(self):
        load = (LOAD, machine_text(places=2, carriage=3))
        found = run(load, (SET, "99"), (EXECUTE_PLAN, "7"), (STATE,), (EXECUTE_PLAN, "-300"), (STATE,))
        self.assertEqual(read_state(found[3])[2:4], (99 * 7 % 100, 7))
        self.assertEqual(read_state(found[5])[2:4], (99 * -293 % 100, -293))

    def test_spent(self):
        load = (LOAD, machine_text(turn=100, shift=10, setting=1))
        found = run(load, (SET, "1"), (EXECUTE_PLAN, "19"), (EXECUTE_PLAN, "19"), (STATE,))
        self.assertEqual(found[2:4], [[0, 1] + numeral(310), [0, 0] + numeral(310)])
        self.assertEqual(read_state(found[4]), (0, 1, 38, 38, 621))


class Refused(unittest.TestCase):
    def test_longest_plans(self):
        load = (LOAD, machine_text(base=2, places=40, carriage=1))
        for k, after in (("2000", 2000), ("-2000", -2000)):
            found = run(load, (SET, "1"), (EXECUTE_PLAN, k), (STATE,))
            self.assertEqual(found[2], [0, 0] + numeral(2000))
            self.assertEqual(read_state(found[3]), (0, 1, after % 2 ** 40, after, 2001))
        for k in ("2001", "-2001", "9" * 40, "-" + "9" * 40):
            found = run(load, (SET, "1"), (STATE,), (EXECUTE_PLAN, k), (STATE,))
            self.assertEqual(found[3], [-8])
            self.assertEqual(found[2], found[4])

    def test_shifts_count(self):
        load = (LOAD, machine_text(base=10, carriage=4))
        self.assertEqual(run(load, (EXECUTE_PLAN, "1997000"), (EXECUTE_PLAN, "-2000000"))[1:],
                         [[0, 3] + numeral(2000), [0, 3] + numeral(2000)])
        self.assertEqual(run(load, (EXECUTE_PLAN, "1998000"), (STATE,))[1:], [[-8], [0] + numeral(0) * 4])

    def test_wrong_integers(self):
        before = [(SET, "7"), (EXECUTE, [3, 1])]
        state = last(*before, (STATE,))
        for k, code in (("", -5), ("-0", -5), ("01", -5), ("1 ", -5), ("1 2", -5), ("x", -5),
                        ("9" * 41, -5), ([256], -1), ([-1], -1), ([48, 48, 256], -1), ([49] * 1001, -1)):
            self.assertEqual(run(*before, (EXECUTE_PLAN, k), (STATE,))[2:], [[code], state], k)


if __name__ == "__main__":
    unittest.main()

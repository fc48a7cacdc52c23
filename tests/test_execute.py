"""execute, accumulator, counter and clear."""

import unittest

from tests.helper import (ACCUMULATOR, CLEAR, COUNTER, EXECUTE, LOAD, SET, Bench, last,
                          machine_text, numeral, run)


class Execute(unittest.TestCase):
    def test_number_of_moves(self):
        self.assertEqual(last((EXECUTE, [])), [0, 0] + numeral(0))
        self.assertEqual(last((EXECUTE, [1] * 2000)), [0, 0] + numeral(2000))
        self.assertEqual(last((EXECUTE, [1] * 2001)), [-4])
        self.assertEqual(last((EXECUTE, [3, 4] * 1000)), [0, 0] + numeral(2000))

    def test_no_moves(self):
        for move in (0, 5, -1, 256, 2 ** 63 - 1, -2 ** 63):
            self.assertEqual(last((EXECUTE, [move])), [-4])
            self.assertEqual(last((EXECUTE, [1, 3, move])), [-4])
            self.assertEqual(last((EXECUTE, [move, 1, 3])), [-4])

    def test_each_move(self):
        load = (LOAD, machine_text(base=8, turn=5, shift=3))
        calls = [load, (SET, "2")]
        for move in (1, 3, 1, 1, 2, 3, 2, 4, 4):
            calls.append((EXECUTE, [move]))
        self.assertEqual(run(*calls)[2:],
                         [[0, 0] + numeral(5), [0, 1] + numeral(3), [0, 1] + numeral(5),
                          [0, 1] + numeral(5), [0, 1] + numeral(5), [0, 2] + numeral(3),
                          [0, 2] + numeral(5), [0, 1] + numeral(3), [0, 0] + numeral(3)])
        self.assertEqual(run(*(calls + [(COUNTER,), (ACCUMULATOR,)]))[-2:],
                         [[0] + numeral(1 + 8 - 64), [0] + numeral(8 ** 12 - 110)])

    def test_position_is_kept(self):
        self.assertEqual(run((EXECUTE, [3, 3]), (EXECUTE, [1]), (EXECUTE, [4, 1]), (COUNTER,))[1:],
                         [[0, 2] + numeral(1), [0, 1] + numeral(2), [0] + numeral(110)])

    def test_beyond_the_ends(self):
        self.assertEqual(last((EXECUTE, [4])), [-6])
        self.assertEqual(last((EXECUTE, [3] * 5)), [0, 5] + numeral(5))
        self.assertEqual(last((EXECUTE, [3] * 6)), [-6])
        # back in the range afterwards
        self.assertEqual(last((EXECUTE, [4, 3])), [-6])
        self.assertEqual(last((EXECUTE, [3] * 6 + [4])), [-6])

    def test_one_carriage_position(self):
        load = (LOAD, machine_text(carriage=1))
        self.assertEqual(run(load, (EXECUTE, [3]), (EXECUTE, [4]), (EXECUTE, [1, 2, 1])),
                         [[0], [-6], [-6], [0, 0] + numeral(3)])

    def test_carriage_beyond_the_places(self):
        load = (LOAD, machine_text(base=2, places=3, carriage=12))
        self.assertEqual(run(load, (SET, "7"), (EXECUTE, [1] + [3] * 11 + [1]), (ACCUMULATOR,),
                             (COUNTER,))[2:],
                         [[0, 11] + numeral(13), [0] + numeral(7), [0] + numeral(2049)])

    def test_order_of_errors(self):
        self.assertEqual(last((EXECUTE, [4, 5])), [-4])
        self.assertEqual(last((EXECUTE, [4] * 2001)), [-4])

    def test_refused_moves_change_nothing(self):
        bench = Bench()
        bench.do(SET, "3")
        bench.do(EXECUTE, [1, 3, 1])
        before = bench.fields()
        self.assertEqual(before, (1, 3, 33, 11, 4))
        for moves in ([1, 4, 1, 4], [3] * 5, [1, 3, 0], [1] * 2001):
            self.assertLess(bench.do(EXECUTE, moves)[0], 0)
            self.assertEqual(bench.fields(), before)

    def test_spent(self):
        bench = Bench()
        bench.do(LOAD, machine_text(turn=100, shift=10, setting=1))
        bench.do(SET, "1")
        bench.do(EXECUTE, [1, 2, 3, 4, 3])
        bench.do(EXECUTE, [1])
        self.assertEqual(bench.fields(), (1, 1, 10, 10, 331))

    def test_accumulator_modulo_the_capacity(self):
        load = (LOAD, machine_text(places=2, carriage=3))
        self.assertEqual(run(load, (SET, "99"), (EXECUTE, [1, 1]), (ACCUMULATOR,), (EXECUTE, [2] * 5),
                             (ACCUMULATOR,), (COUNTER,), (EXECUTE, [3, 2]), (ACCUMULATOR,),
                             (EXECUTE, [3, 1, 2, 2]), (ACCUMULATOR,), (COUNTER,))[2:],
                         [[0, 0] + numeral(2), [0] + numeral(98), [0, 0] + numeral(5),
                          [0] + numeral(3), [0] + numeral(-3), [0, 1] + numeral(2),
                          [0] + numeral(13), [0, 2] + numeral(4), [0] + numeral(13),
                          [0] + numeral(-113)])

    def test_multiples_of_the_capacity(self):
        load = (LOAD, machine_text(base=2, places=1, carriage=2))
        self.assertEqual(run(load, (SET, "1"), (EXECUTE, [2]), (ACCUMULATOR,), (EXECUTE, [2]),
                             (ACCUMULATOR,), (EXECUTE, [3, 1]), (ACCUMULATOR,))[3::2],
                         [[0] + numeral(1), [0] + numeral(0), [0] + numeral(0)])

    def test_counter_grows_beyond_the_capacity(self):
        load = (LOAD, machine_text(places=1))
        self.assertEqual(run(load, (EXECUTE, [3, 1, 1]), (COUNTER,), (ACCUMULATOR,))[2:],
                         [[0] + numeral(20), [0] + numeral(0)])


class Clear(unittest.TestCase):
    def test_accumulator(self):
        self.assertEqual(run((SET, "7"), (EXECUTE, [3, 1]), (CLEAR, 1), (ACCUMULATOR,), (COUNTER,),
                             (EXECUTE, [1]), (ACCUMULATOR,))[2:],
                         [[0], [0] + numeral(0), [0] + numeral(10), [0, 1] + numeral(1),
                          [0] + numeral(70)])

    def test_counter(self):
        self.assertEqual(run((SET, "7"), (EXECUTE, [3, 2]), (CLEAR, 2), (ACCUMULATOR,), (COUNTER,),
                             (EXECUTE, [1]), (COUNTER,))[2:],
                         [[0], [0] + numeral(10 ** 12 - 70), [0] + numeral(0),
                          [0, 1] + numeral(1), [0] + numeral(10)])

    def test_others(self):
        for which in (0, 3, -1, -2, 256, 2 ** 63 - 1, -2 ** 63):
            self.assertEqual(run((SET, "7"), (EXECUTE, [1]), (CLEAR, which), (ACCUMULATOR,),
                                 (COUNTER,))[2:],
                             [[-2], [0] + numeral(7), [0] + numeral(1)])

    def test_nothing_else_changes(self):
        for which, after in ((1, (1, 7, 0, 10, 3)), (2, (1, 7, 70, 0, 3)), (3, (1, 7, 70, 10, 3))):
            bench = Bench()
            bench.do(SET, "7")
            bench.do(EXECUTE, [3, 1])
            bench.do(CLEAR, which)
            self.assertEqual(bench.fields(), after)


if __name__ == "__main__":
    unittest.main()

"""set_input."""

import unittest

from tests.helper import ACCUMULATOR, EXECUTE, LOAD, SET, Bench, last, machine_text, numeral, run


class SetInput(unittest.TestCase):
    def test_sets_the_levers(self):
        self.assertEqual(run((SET, "7"), (EXECUTE, [1]), (SET, "20"), (EXECUTE, [1]),
                             (ACCUMULATOR,)),
                         [[0], [0, 0] + numeral(1), [0], [0, 0] + numeral(1), [0] + numeral(27)])

    def test_replaces_the_former_number(self):
        self.assertEqual(last((SET, "7"), (SET, "0"), (EXECUTE, [1]), (ACCUMULATOR,)),
                         [0] + numeral(0))

    def test_one_less_than_the_capacity(self):
        for base, places in ((10, 12), (2, 1), (36, 1), (2, 40), (36, 40)):
            capacity = base ** places
            load = (LOAD, machine_text(base=base, places=places))
            self.assertEqual(run(load, (SET, str(capacity - 1)), (EXECUTE, [1]), (ACCUMULATOR,),
                                 (SET, str(capacity)), (EXECUTE, [2]), (ACCUMULATOR,)),
                             [[0], [0], [0, 0] + numeral(1), [0] + numeral(capacity - 1), [-9],
                              [0, 0] + numeral(1), [0] + numeral(0)])

    def test_lengths(self):
        self.assertEqual(last((SET, "0")), [0])
        self.assertEqual(last((SET, "9")), [0])
        self.assertEqual(last((SET, "9" * 300)), [-9])
        self.assertEqual(last((SET, "1" + "0" * 299)), [-9])
        self.assertEqual(last((SET, "9" * 301)), [-5])
        self.assertEqual(last((SET, "9" * 1000)), [-5])
        self.assertEqual(last((SET, "9" * 1001)), [-1])

    def test_forms(self):
        for text in ("", "00", "07", "-1", "-0", "+1", " 1", "1 ", "1\n", "1 2", "a", "1a", "/",
                     ":", "1.", "\xff", "\x00"):
            self.assertEqual(last((SET, text)), [-5], text)

    def test_no_bytes(self):
        for number in ([-1], [256], [49, 256], [-1, 49], [48, 48, 300]):
            self.assertEqual(last((SET, number)), [-1], number)

    def test_order_of_errors(self):
        # a list that is no list of bytes, of a wrong form and too large
        self.assertEqual(last((SET, [48] * 1000 + [57])), [-1])
        self.assertEqual(last((SET, [48, 57, 256])), [-1])
        self.assertEqual(last((SET, "0" + "9" * 50)), [-5])
        self.assertEqual(last((SET, "9" * 50)), [-9])

    def test_spent(self):
        bench = Bench()
        bench.do(LOAD, machine_text(setting=1000, places=2))
        for number in ("5", "5", "0"):
            self.assertEqual(bench.do(SET, number), [0])
        self.assertEqual(bench.fields(), (0, 0, 0, 0, 3000))

    def test_refused_calls_spend_nothing(self):
        bench = Bench()
        bench.do(LOAD, machine_text(setting=10, places=2))
        bench.do(SET, "42")
        for number in ("100", "01", "", [256], "9" * 301):
            self.assertLess(bench.do(SET, number)[0], 0)
        self.assertEqual(bench.fields(), (0, 42, 0, 0, 10))


if __name__ == "__main__":
    unittest.main()

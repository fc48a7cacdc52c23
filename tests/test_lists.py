"""What list_cost, best_order and cost_by_position have in common: the lists of integers."""

import unittest

from tests.helper import BY_POSITION, EXECUTE, LIST, ORDER, SET, STATE, last, numeral, run, written

LONGEST = (str(10 ** 39), "-" + "9" * 40, "9" * 40, "-" + "1" * 40)


class Lists(unittest.TestCase):
    def check(self, given, code):
        for number in (LIST, ORDER, BY_POSITION):
            self.assertEqual(last((number, given)), [code], (number, given))

    def accept(self, given):
        for number in (LIST, ORDER, BY_POSITION):
            answer = last((number, given))
            self.assertGreaterEqual(answer[0], 0, (number, given))

    def test_no_integers(self):
        self.assertEqual(last((LIST, "")), [0] + numeral(0))
        self.assertEqual(last((ORDER, "")), [0])
        self.assertEqual(last((BY_POSITION, "")), [6, 1] + numeral(0) + [0] * 5)

    def test_integers(self):
        for given in ("0", "5", "-5", "0 0", "1 -1", "0 -3 0", "10 20 30 40 50"):
            self.accept(given)

    def test_wrong_integers(self):
        for wrong in ("-0", "00", "01", "-01", "-", "--1", "+1", "1-", "x", "1x", "1.0", "1,2", "\t",
                      "1\n2", "1\n", "\x00", "\xff", "9" * 41, "-" + "9" * 41):
            for given in (wrong, f"{wrong} 1", f"1 {wrong}", f"1 {wrong} 2"):
                self.check(given, -5)

    def test_spaces(self):
        for given in (" ", "  ", " 1", "1 ", "1  2", " 1 2", "1 2 ", "1 2  3", " 1 "):
            self.check(given, -5)

    def test_forty_digits(self):
        for k in LONGEST:
            self.accept(k)
            self.accept(f"{k} 0 {k}")
            self.check(f"{k}0", -5)

    def test_longest_lists(self):
        # as long as a list of bytes may be, but of too many integers or too many digits
        self.check("1 " * 499 + "12", -7)
        self.check("1" * 1000, -5)
        self.check("1" * 1001, -1)
        self.check("1 " * 500, -5)
        self.check("1 " * 500 + "1", -1)
        self.check([32] * 1100, -1)

    def test_no_bytes(self):
        for wrong in (-1, 256, 2 ** 63 - 1, -2 ** 63):
            for given in ([wrong], [49, 32, wrong], [wrong, 32, 49], [48, 48, wrong], [32, wrong],
                          [49, 32] * 20 + [wrong]):
                self.check(given, -1)

    def test_number_of_integers(self):
        for number, most in ((LIST, 8), (ORDER, 5), (BY_POSITION, 8)):
            for k in (0, 7, -19):
                self.assertGreaterEqual(last((number, written([k] * most)))[0], 0)
                self.assertEqual(last((number, written([k] * (most + 1)))), [-7])
                self.assertEqual(last((number, written([k] * 100))), [-7])

    def test_order_of_errors(self):
        for given in ("1 2 3 4 5 6 7 8 9 00", "1 2 3 4 5 6 7 8 -0 9", "1 2 3 4 5 6 7 8 9 ",
                      " 1 2 3 4 5 6 7 8 9", "1 2 3 4 5 6 7 8  9", "1 2 3 4 5 6 7 8 " + "9" * 41):
            self.check(given, -5)
        self.check([49, 32] * 9 + [256], -1)

    def test_nothing_is_changed(self):
        before = [(SET, "7"), (EXECUTE, [3, 1, 3])]
        state = last(*before, (STATE,))
        for number in (LIST, ORDER, BY_POSITION):
            for given in ("19 -1 200", "", "0", "1 1 1 1 1 1 1 1 1", "-0", [256]):
                found = run(*before, (number, given), (STATE,), (number, given))
                self.assertEqual(found[-2], state)
                self.assertEqual(found[-1], found[-3])


if __name__ == "__main__":
    unittest.main()

"""signed_digits, beside a search over all representations."""

import itertools
import unittest

from tests.helper import (DIGITS, LOAD, SET, EXECUTE, STATE, last, machine_text, numeral, read_numerals,
                          run, signed_digits_by_words)


def digits(k, base, n):
    answer = last((LOAD, machine_text(base=base)), (DIGITS, n, str(k)))
    found = read_numerals(answer[1:])
    assert answer[0] == n + 1 == len(found)
    return found


def searched_digits(k, base, n):
    """The best of all lists of digits with a highest one of any size."""
    best = None
    for lower in itertools.product(range(-base + 1, base), repeat=n):
        rest = k - sum(digit * base ** place for place, digit in enumerate(lower))
        if rest % base ** n == 0:
            found = list(lower) + [rest // base ** n]
            # at the lowest place where two differ, the negative digit loses
            marks = (sum(map(abs, found)), [digit < 0 for digit in found])
            if best is None or marks < best[0]:
                best = (marks, found)
    return best[1]


class Digits(unittest.TestCase):
    def test_example(self):
        self.assertEqual(last((DIGITS, 1, "19")), [2, 2, 45, 49, 1, 50])

    def test_one_place(self):
        for k in (0, 5, -5, 19, 10 ** 39, -(10 ** 40 - 1)):
            for base in (2, 10, 36):
                self.assertEqual(digits(k, base, 0), [k])

    def test_zero(self):
        for n in range(12):
            self.assertEqual(digits(0, 10, n), [0] * (n + 1))

    def test_ties(self):
        self.assertEqual(digits(15, 10, 1), [5, 1])
        self.assertEqual(digits(-15, 10, 1), [-5, -1])
        self.assertEqual(digits(55, 10, 2), [5, 5, 0])
        self.assertEqual(digits(-55, 10, 2), [5, 4, -1])
        self.assertEqual(digits(5, 10, 1), [5, 0])
        self.assertEqual(digits(-5, 10, 1), [-5, 0])
        self.assertEqual(digits(3, 2, 2), [1, 1, 0])
        self.assertEqual(digits(-3, 2, 2), [1, 0, -1])
        self.assertEqual(digits(1, 2, 3), [1, 0, 0, 0])
        self.assertEqual(digits(-1, 2, 3), [-1, 0, 0, 0])

    def test_much_larger_than_the_places(self):
        self.assertEqual(digits(10 ** 39, 10, 2), [0, 0, 10 ** 37])
        self.assertEqual(digits(10 ** 40 - 1, 10, 3), [-1, 0, 0, 10 ** 37])
        self.assertEqual(digits(-(10 ** 40 - 1), 10, 3), [1, 0, 0, -10 ** 37])

    def test_all_places(self):
        for n in range(12):
            for base in (2, 3, 10, 17, 36):
                for k in (1, -1, base ** 11, -base ** 5 + 1, 123456789, -987654321, int("45" * 20)):
                    found = digits(k, base, n)
                    self.assertEqual(sum(digit * base ** place for place, digit in enumerate(found)), k)
                    self.assertTrue(all(abs(digit) < base for digit in found[:-1]))

    def test_long_numbers_beside_the_words(self):
        numbers = [int("5" * 40), -int("45" * 20), int("94" * 20), 2 ** 130 - 2 ** 37, 36 ** 25 - 18 * 36 ** 7]
        for base in (2, 3, 10, 35, 36):
            for n in (1, 6, 11):
                for k in numbers:
                    self.assertEqual(digits(k, base, n), signed_digits_by_words(k, base, n), (k, base, n))

    def test_search(self):
        for base, n in ((2, 0), (2, 1), (2, 4), (3, 2), (4, 3), (5, 2), (10, 1), (10, 2), (36, 1)):
            numbers = range(-2 * base - 25, 2 * base + 26)
            found = run((LOAD, machine_text(base=base)), *[(DIGITS, n, str(k)) for k in numbers])[1:]
            for k, answer in zip(numbers, found):
                self.assertEqual(read_numerals(answer[1:]), searched_digits(k, base, n), (k, base, n))

    def test_beside_the_words(self):
        for base, n in ((2, 5), (2, 8), (3, 5), (4, 4), (7, 3), (36, 2)):
            numbers = range(-199, 200)
            found = run((LOAD, machine_text(base=base)), *[(DIGITS, n, str(k)) for k in numbers])[1:]
            for k, answer in zip(numbers, found):
                self.assertEqual(read_numerals(answer[1:]), signed_digits_by_words(k, base, n), (k, base, n))

    def test_carriage_does_not_matter(self):
        self.assertEqual(last((LOAD, machine_text(carriage=1, places=1)), (DIGITS, 11, "19")),
                         [12] + numeral(-1) + numeral(2) + numeral(0) * 10)

    def test_nothing_is_changed(self):
        before = [(SET, "7"), (EXECUTE, [3, 1])]
        state = last(*before, (STATE,))
        for n, k in ((3, "19"), (-1, "19"), (12, "1"), (3, "-0"), (3, [256])):
            self.assertEqual(last(*before, (DIGITS, n, k), (STATE,)), state)


class Errors(unittest.TestCase):
    def test_number_of_places(self):
        self.assertEqual(last((DIGITS, 0, "1")), [1] + numeral(1))
        self.assertEqual(last((DIGITS, 11, "1")), [12] + numeral(1) + numeral(0) * 11)
        for n in (-1, 12, -2, 13, 256, 2 ** 63 - 1, -2 ** 63):
            self.assertEqual(last((DIGITS, n, "1")), [-2], n)

    def test_wrong_integers(self):
        for k in ("", "-", "-0", "00", "01", "+1", " 1", "1 ", "1 2", "x", "9" * 41, "-" + "9" * 41):
            self.assertEqual(last((DIGITS, 3, k)), [-5], k)
        for k in ([-1], [256], [48, 48, 256], [49] * 1001):
            self.assertEqual(last((DIGITS, 3, k)), [-1], k)

    def test_order_of_errors(self):
        for k in ("-0", "", "9" * 41, [256], [49] * 1001):
            for n in (-1, 12, -2 ** 63):
                self.assertEqual(last((DIGITS, n, k)), [-2])


if __name__ == "__main__":
    unittest.main()

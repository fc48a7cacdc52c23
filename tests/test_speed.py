"""A list of 400 calls with the largest machines is answered within some seconds."""

import time
import unittest

from tests.helper import ACCUMULATOR, COST, COUNTER, LOAD, MOVES, PLAN, call, machine_text, split_answers
from turncarriage.machine import answers

MOST_SECONDS = 10
MOST_NUMBERS = 16000


class Speed(unittest.TestCase):
    def check(self, base, number, factor):
        calls = call(LOAD, machine_text(base, 40, 12, 1000, 1000, 1000, "abcdefghijkl"))
        count = 1
        k = 10 ** 40 - 1 - (10 ** 40 - 1) % factor
        while count < 360:
            calls.extend(call(number, str(k)))
            k -= factor
            count += 1
        while count < 400:
            calls.extend(call(ACCUMULATOR if count % 2 else COUNTER))
            count += 1
        self.assertLessEqual(len(calls), MOST_NUMBERS)
        begun = time.monotonic()
        found = split_answers(answers(calls))
        self.assertLess(time.monotonic() - begun, MOST_SECONDS)
        self.assertEqual(len(found), 400)
        self.assertEqual(found[0], [0])

    def test_largest_machines(self):
        for base in (2, 10, 36):
            for number in (COST, MOVES, PLAN):
                self.check(base, number, 1)

    def test_multiples_of_high_powers(self):
        for number in (COST, MOVES, PLAN):
            self.check(2, number, 2 ** 11)
            self.check(36, number, 36 ** 11)


if __name__ == "__main__":
    unittest.main()

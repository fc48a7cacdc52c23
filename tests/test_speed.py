"""A list of 400 calls with the largest machines is answered within some seconds."""

import time
import unittest

from tests.helper import (ACCUMULATOR, BY_POSITION, CHOOSE, COST, COUNTER, DIGITS, EXECUTE_PLAN, LIST, LOAD,
                          MOVES, ORDER, PLAN, STATE, call, machine_text, split_answers, written)
from turncarriage.machine import answers

MOST_SECONDS = 10
MOST_NUMBERS = 16000


class Speed(unittest.TestCase):
    def check(self, base, number, factor):
        calls = call(LOAD, machine_text(base, 40, 12, 1000, 1000, 1000, "abcdefghijkl"))
        count = 1
        k = 10 ** 40 - 1 - (10 ** 40 - 1) % factor
        while count < 360:
            calls.extend(call(number, str(k)))
            k -= factor
            count += 1
        while count < 400:
            calls.extend(call(ACCUMULATOR if count % 2 else COUNTER))
            count += 1
        self.assertEqual(self.answered(calls)[0], [0])

    def answered(self, calls):
        self.assertLessEqual(len(calls), MOST_NUMBERS)
        begun = time.monotonic()
        found = split_answers(answers(calls))
        self.assertLess(time.monotonic() - begun, MOST_SECONDS)
        self.assertEqual(len(found), 400)
        return found

    def test_largest_machines(self):
        for base in (2, 10, 36):
            for number in (COST, MOVES, PLAN):
                self.check(base, number, 1)

    def test_multiples_of_high_powers(self):
        for number in (COST, MOVES, PLAN):
            self.check(2, number, 2 ** 11)
            self.check(36, number, 36 ** 11)

    def list_calls(self, base, integers):
        """load_machine and, with as many long integers as there may be, the calls with lists."""
        calls = call(LOAD, machine_text(base, 40, 12, 1000, 1000, 1000, "abcdefghijkl"))
        for turn in range(5):
            calls.extend(call(ORDER, written(integers[turn:turn + 5])))
        count = 6
        while count < 400:
            number = LIST if count % 2 else BY_POSITION
            more = call(number, written(integers[:8]))
            # each of the calls behind has room for three numbers
            if len(calls) + len(more) > MOST_NUMBERS - 3 * (399 - count):
                break
            calls.extend(more)
            count += 1
        while count < 400:
            calls.extend(call(STATE) if count % 2 else call(EXECUTE_PLAN, "7"))
            count += 1
        return calls

    def test_lists_of_long_integers(self):
        for base in (2, 10, 36):
            integers = [10 ** 39 - 10 ** at - 1 for at in range(9)]
            found = self.answered(self.list_calls(base, [base ** 11 * (k // base ** 11) for k in integers]))
            self.assertEqual([len(answer) for answer in found[1:6]], [6] * 5)
            found = self.answered(self.list_calls(base, [-10 ** 39 - k for k in integers]))
            self.assertEqual([len(answer) for answer in found[1:6]], [6] * 5)

    def test_lists_of_many_integers(self):
        for base in (2, 10, 36):
            found = self.answered(self.list_calls(base, [4096, 1000, 7, -729, 1296, 55, 2048, 9, 99]))
            self.assertEqual([answer[0] for answer in found[6:390]], [12, 0] * 192)

    def test_other_calls(self):
        for base in (2, 10, 36):
            calls = call(LOAD, machine_text(base, 40, 12, 1, 1000, 1))
            for count in range(185):
                calls.extend(call(CHOOSE, str(10 ** 35 - count), str(count - 10 ** 35)))
            for count in range(214):
                calls.extend(call(DIGITS, count % 12, "77"))
            found = self.answered(calls)
            self.assertEqual(found[0], [0])


if __name__ == "__main__":
    unittest.main()

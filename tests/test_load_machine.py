"""load_machine: the text of a machine, offsets of errors, the state afterwards."""

import unittest

from tests.helper import (ACCUMULATOR, COST, COUNTER, EXECUTE, FIRST_TEXT, LOAD, SET, Bench, last,
                          machine_text, numeral, run)

FIELDS = (("base", 2, 36), ("places", 1, 40), ("carriage", 1, 12),
          ("turn", 0, 1000), ("shift", 0, 1000), ("set", 0, 1000))


def text_with(word, field):
    """The first machine's text with another text for a field, and the field's offset."""
    at = FIRST_TEXT.index(f"{word} ") + len(word) + 1
    end = at
    while end < len(FIRST_TEXT) and FIRST_TEXT[end].isdigit():
        end += 1
    return (FIRST_TEXT[:at] + field + FIRST_TEXT[end:], at)


class Accepted(unittest.TestCase):
    def test_ends_of_each_range(self):
        for word, least, most in FIELDS:
            for number in (least, least + 1, most - 1, most):
                text, at = text_with(word, str(number))
                self.assertEqual(last((LOAD, text)), [0], text)

    def test_names(self):
        for name in ("a", "z", "desk", "base", "abcdefghijkl", "zzzzzzzzzzzz"):
            self.assertEqual(last((LOAD, machine_text(name=name))), [0], name)

    def test_fields_mean_what_they_say(self):
        text = machine_text(base=7, places=3, carriage=4, turn=11, shift=13, setting=17)
        self.assertEqual(run((LOAD, text), (SET, "343"), (SET, "342"), (EXECUTE, [3, 1, 3, 3]),
                             (EXECUTE, [3]), (ACCUMULATOR,), (COUNTER,)),
                         [[0], [-9], [0], [0, 3] + numeral(3 * 13 + 11), [-6],
                          [0] + numeral(342 * 7 % 343), [0] + numeral(7)])

    def test_costs_of_zero(self):
        text = machine_text(turn=0, shift=0, setting=0)
        self.assertEqual(last((LOAD, text), (EXECUTE, [1, 3, 2, 4])), [0, 0] + numeral(0))

    def test_largest_machine(self):
        text = machine_text(36, 40, 12, 1000, 1000, 1000, "abcdefghijkl")
        self.assertEqual(run((LOAD, text), (SET, str(36 ** 40)), (SET, str(36 ** 40 - 1)),
                             (EXECUTE, [3] * 11 + [1]), (COUNTER,), (ACCUMULATOR,)),
                         [[0], [-9], [0], [0, 11] + numeral(12000), [0] + numeral(36 ** 11),
                          [0] + numeral(36 ** 40 - 36 ** 11)])

    def test_all_other_fields_are_zero_afterwards(self):
        bench = Bench()
        bench.do(SET, "7")
        bench.do(EXECUTE, [1, 3, 1])
        self.assertEqual(bench.fields(), (1, 7, 77, 11, 4))
        self.assertEqual(bench.do(LOAD, machine_text(base=8, setting=9)), [0])
        self.assertEqual(bench.fields(), (0, 0, 0, 0, 0))
        self.assertEqual(bench.do(SET, "5"), [0])
        self.assertEqual(bench.fields(), (0, 5, 0, 0, 9))

    def test_zero_afterwards_as_the_calls_tell(self):
        self.assertEqual(run((SET, "7"), (EXECUTE, [3, 1]), (LOAD, FIRST_TEXT), (ACCUMULATOR,),
                             (COUNTER,), (EXECUTE, [1]), (ACCUMULATOR,))[3:],
                         [[0] + numeral(0), [0] + numeral(0), [0, 0] + numeral(1),
                          [0] + numeral(0)])


class Refused(unittest.TestCase):
    def check(self, text, offset):
        self.assertEqual(last((LOAD, text)), [-1000 - offset], text)

    def test_beyond_each_range(self):
        for word, least, most in FIELDS:
            wrong = [str(most + 1), str(most * 1000), "9" * 300, "9" * 301, "-1"]
            if least > 0:
                wrong.append(str(least - 1))
            for field in wrong:
                self.check(*text_with(word, field))

    def test_fields_that_are_no_decimals(self):
        for word, least, most in FIELDS:
            for field in ("01", "00", f"0{most}", "+2", "-0", "2x", "x", "2.", "2\t", "\x00", ""):
                self.check(*text_with(word, field))

    def test_names(self):
        for name in ("", "abcdefghijklm", "A", "aB", "a1", "1", "a-b", "`", "{", "\xe9"):
            self.check(machine_text(name=name), 5)

    def test_each_token_in_turn(self):
        at = 0
        for line in FIRST_TEXT.split("\n"):
            for token in line.split(" "):
                end = at + len(token)
                self.check(FIRST_TEXT[:at] + "?" + FIRST_TEXT[end:], at)
                self.check(FIRST_TEXT[:at] + "\n" + FIRST_TEXT[end:], at)
                # an empty token in its place
                self.check(FIRST_TEXT[:at] + " " + FIRST_TEXT[at:], at)
                # the text ends before it, or with the space or the line feed before it
                self.check(FIRST_TEXT[:at], at)
                if at > 0:
                    self.check(FIRST_TEXT[:at - 1], at - 1)
                # an additional token
                self.check(FIRST_TEXT[:at] + "? " + FIRST_TEXT[at:], at)
                at = end + 1

    def test_missing_tokens(self):
        self.check("desk\nbase 10 places 12 carriage 6\nturn 1 shift 1 set 1", 4)
        self.check("none\nbase 10 places 12 carriage 6\nturn 1 shift 1 set 1", 0)
        self.check("desk none\nbase 10 places carriage 6\nturn 1 shift 1 set 1", 25)
        self.check("desk none\nbase 10 places 12 carriage\nturn 1 shift 1 set 1", 36)
        self.check("desk none base 10 places 12 carriage 6\nturn 1 shift 1 set 1", 10)
        self.check("desk none\nturn 1 shift 1 set 1", 10)
        self.check("desk none\nbase 10 places 12 carriage 6", 38)
        self.check("desk none\nbase 10 places 12 carriage 6\nturn 1 shift 1 set", 57)

    def test_empty_tokens(self):
        self.check("desk  a", 5)
        self.check(" " + FIRST_TEXT, 0)
        self.check("desk none \nbase 10 places 12 carriage 6\nturn 1 shift 1 set 1", 10)
        self.check("desk none\n base 10 places 12 carriage 6\nturn 1 shift 1 set 1", 10)
        self.check("desk none\nbase 10 places 12  carriage 6\nturn 1 shift 1 set 1", 28)
        self.check(FIRST_TEXT + " ", len(FIRST_TEXT) + 1)
        self.check(FIRST_TEXT + "  ", len(FIRST_TEXT) + 1)
        self.check(" ", 0)
        self.check("desk ", 5)

    def test_line_feeds(self):
        self.check(FIRST_TEXT + "\n", len(FIRST_TEXT))
        self.check("\n" + FIRST_TEXT, 0)
        self.check("desk none\n\nbase 10 places 12 carriage 6\nturn 1 shift 1 set 1", 10)
        self.check("desk none\r\nbase 10 places 12 carriage 6\nturn 1 shift 1 set 1", 5)
        self.check("\n", 0)

    def test_additional_tokens(self):
        self.check("desk none none\nbase 10 places 12 carriage 6\nturn 1 shift 1 set 1", 10)
        self.check(FIRST_TEXT + " 1", len(FIRST_TEXT) + 1)
        self.check(FIRST_TEXT + "\nend", len(FIRST_TEXT))

    def test_wrong_words(self):
        for wrong in ("Desk none", "des none", "deskk none", "base none"):
            self.check(FIRST_TEXT.replace("desk none", wrong), 0)
        self.check(FIRST_TEXT.replace("shift", "turn"), FIRST_TEXT.index("shift"))

    def test_empty_text(self):
        self.check("", 0)

    def test_first_error_counts(self):
        self.check("desk none\nbase 99 places 99 carriage 6", 15)

    def test_long_lists(self):
        self.assertEqual(last((LOAD, [97] * 1000)), [-1000])
        self.assertEqual(last((LOAD, [97] * 1001)), [-1])
        self.assertEqual(last((LOAD, FIRST_TEXT + "1" * (1000 - len(FIRST_TEXT)))),
                         [-1000 - len(FIRST_TEXT) + 1])
        self.assertEqual(last((LOAD, FIRST_TEXT + "1" * (1001 - len(FIRST_TEXT)))), [-1])

    def test_numbers_that_are_no_bytes(self):
        text = list(FIRST_TEXT.encode("ascii"))
        for number in (-1, 256):
            for at in (0, 20, len(text) - 1):
                self.assertEqual(last((LOAD, text[:at] + [number] + text[at + 1:])), [-1])
        for number in (0, 255):
            self.assertEqual(last((LOAD, [number] + text)), [-1000])

    def test_the_machine_stays(self):
        self.assertEqual(run((LOAD, machine_text(carriage=2)), (LOAD, FIRST_TEXT + "\n"),
                             (EXECUTE, [3, 3]), (EXECUTE, [3]), (COST, "100"))[2:],
                         [[-6], [0, 1] + numeral(1), [0] + numeral(10)])


if __name__ == "__main__":
    unittest.main()

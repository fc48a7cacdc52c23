"""state and print_machine."""

import unittest

from tests.helper import (CHECK, CLEAR, EXECUTE, EXECUTE_PLAN, FIRST_TEXT, LIST, LOAD, MOVES, PRINT,
                          SET, STATE, last, machine_text, numeral, read_state, run)


def state_after(*calls):
    return read_state(last(*calls, (STATE,)))


def printed(text):
    return [0, len(text)] + list(text.encode("ascii"))


class State(unittest.TestCase):
    def test_initial_values(self):
        self.assertEqual(last((STATE,)), [0] + numeral(0) * 4)

    def test_example(self):
        self.assertEqual(last((SET, "7"), (EXECUTE_PLAN, "19"), (STATE,)),
                         [1, 1, 55, 3, 49, 51, 51, 2, 49, 57, 1, 53])

    def test_each_call_in_turn(self):
        calls = [(LOAD, machine_text(places=3, turn=100, shift=10, setting=7)), (SET, "12"),
                 (EXECUTE, [3, 1, 1]), (SET, "0"), (EXECUTE, [4, 2]), (EXECUTE_PLAN, "-30"),
                 (SET, "999"), (EXECUTE, [2]), (CLEAR, 1), (CLEAR, 2), (LOAD, FIRST_TEXT)]
        states = [(0, 0, 0, 0, 0), (0, 12, 0, 0, 7), (1, 12, 240, 20, 217), (1, 0, 240, 20, 224),
                  (0, 0, 240, 19, 334), (1, 0, 240, -11, 644), (1, 999, 240, -11, 651),
                  (1, 999, 250, -21, 751), (1, 999, 0, -21, 751), (1, 999, 0, 0, 751), (0, 0, 0, 0, 0)]
        for at, fields in enumerate(states):
            self.assertEqual(state_after(*calls[:at + 1]), fields, calls[at])

    def test_refused_calls(self):
        before = [(SET, "7"), (EXECUTE, [1, 3, 2, 2])]
        fields = state_after(*before)
        self.assertEqual(fields, (1, 7, 10 ** 12 - 133, -19, 5))
        for refused in ((LOAD, "desk b"), (LOAD, FIRST_TEXT + " "), (SET, "1" + "0" * 12), (SET, "-1"),
                        (EXECUTE, [1, 3, 0]), (EXECUTE, [1, 4, 4]), (CLEAR, 3), (EXECUTE_PLAN, "-0"),
                        (EXECUTE_PLAN, "9" * 40), (MOVES, [256]), (CHECK, "1", [9]), (LIST, " ")):
            self.assertEqual(state_after(*before, refused), fields, refused)

    def test_longest_numerals(self):
        text = machine_text(36, 40, 12, 1000, 1000, 1000)
        most = 36 ** 40 - 1
        moves = [3] * 11 + [2] * 1989
        calls = [(LOAD, text), (SET, str(most))] + [(EXECUTE, moves)] + [(EXECUTE, [2] * 2000)] * 6
        turns = 1989 + 6 * 2000
        self.assertEqual(state_after(*calls),
                         (11, most, turns * 36 ** 11, -turns * 36 ** 11, 1000 * (1 + 11 + turns)))

    def test_spent_grows_with_each_call(self):
        calls = [(LOAD, machine_text(setting=1000))] + [(SET, "1")] * 300
        self.assertEqual(state_after(*calls), (0, 1, 0, 0, 300000))

    def test_asking_changes_nothing(self):
        found = run((SET, "5"), (EXECUTE, [3, 1]), (STATE,), (STATE,), (PRINT,), (STATE,))
        self.assertEqual(found[2], found[3])
        self.assertEqual(found[2], found[5])


class PrintMachine(unittest.TestCase):
    def test_initial_machine(self):
        self.assertEqual(last((PRINT,)), printed(FIRST_TEXT))

    def test_what_was_loaded(self):
        for text in (machine_text(2, 1, 1, 0, 0, 0, "a"), machine_text(36, 40, 12, 1000, 1000, 1000, "z"),
                     machine_text(3, 7, 5, 11, 13, 17, "desk"), machine_text(name="base"),
                     machine_text(16, 9, 10, 0, 999, 100, "none")):
            self.assertEqual(run((LOAD, text), (PRINT,)), [[0], printed(text)])

    def test_longest_text(self):
        text = "desk abcdefghijkl\nbase 36 places 40 carriage 12\nturn 1000 shift 1000 set 1000"
        self.assertEqual(last((LOAD, text), (PRINT,)), printed(text))
        self.assertEqual(len(text), 77)

    def test_printed_text_can_be_loaded(self):
        answer = last((LOAD, machine_text(9, 8, 7, 6, 5, 4, "zyx")), (PRINT,))
        self.assertEqual(run((LOAD, answer[2:]), (PRINT,)), [[0], answer])

    def test_other_calls_do_not_change_it(self):
        text = machine_text(7, 6, 5, 4, 3, 2, "abc")
        calls = [(LOAD, text), (SET, "5"), (EXECUTE, [1, 3, 2]), (CLEAR, 1), (EXECUTE_PLAN, "12"),
                 (LOAD, "desk"), (LOAD, FIRST_TEXT + "\n"), (LOAD, [256]), (SET, "9" * 300)]
        for at in range(len(calls)):
            self.assertEqual(last(*calls[:at + 1], (PRINT,)), printed(text))


if __name__ == "__main__":
    unittest.main()

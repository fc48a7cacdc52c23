"""What the tests share: how calls are written, and how answers are read."""

from turncarriage.desks import first_desk
from turncarriage.machine import answers
from turncarriage.operations import carry_out
from turncarriage.state import State

LOAD, SET, EXECUTE, ACCUMULATOR, COUNTER, CLEAR, COST, MOVES, PLAN = range(9)

FIRST_TEXT = "desk none\nbase 10 places 12 carriage 6\nturn 1 shift 1 set 1"


def row(value):
    """A list argument: a text as its bytes, a list as it is."""
    return list(value.encode("latin-1")) if isinstance(value, str) else list(value)


def call(number, *arguments):
    """One call as it stands in the list of calls."""
    written = [number]
    for argument in arguments:
        if isinstance(argument, int):
            written.append(argument)
        else:
            written.extend([len(row(argument))] + row(argument))
    return written


def split_answers(flat):
    """The answers of a list that gives the length of each before it."""
    found = []
    at = 0
    while at < len(flat):
        end = at + 1 + flat[at]
        assert flat[at] >= 1 and end <= len(flat)
        found.append(flat[at + 1:end])
        at = end
    return found


def run(*calls):
    """The answers to calls (tuples of a number and its arguments)."""
    flat = []
    for one in calls:
        flat.extend(call(*one))
    found = split_answers(answers(flat))
    assert len(found) == len(calls)
    return found


def last(*calls):
    return run(*calls)[-1]


def numeral(value):
    text = str(value)
    return [len(text)] + [ord(sign) for sign in text]


def value(answer):
    """The number of an answer that is 0 and a numeral."""
    assert answer[0] == 0 and answer[1] == len(answer) - 2
    return int(bytes(answer[2:]).decode("ascii"))


def machine_text(base=10, places=12, carriage=6, turn=1, shift=1, setting=1, name="a"):
    return (f"desk {name}\nbase {base} places {places} carriage {carriage}\n"
            f"turn {turn} shift {shift} set {setting}")


def read_plan(answer):
    """lo, hi, upward and the digits of an answer to optimal_plan."""
    assert answer[0] == 1
    digits = []
    at = 5
    while at < len(answer):
        end = at + 1 + answer[at]
        digits.append(int(bytes(answer[at + 1:end]).decode("ascii")))
        at = end
    assert len(digits) == answer[4]
    return (answer[1], answer[2], answer[3], digits)


class Bench:
    """A machine whose state can be looked at between the operations."""

    def __init__(self):
        self.state = State(first_desk())

    def do(self, number, *arguments):
        given = [one if isinstance(one, int) else row(one) for one in arguments]
        return carry_out(self.state, number, given)

    def fields(self):
        state = self.state
        return (state.position, state.levers, state.accumulator, state.counter, state.spent)

"""What the tests share: how calls are written, how answers are read, and the document's words."""

import heapq

from turncarriage.desks import first_desk
from turncarriage.machine import answers
from turncarriage.operations import carry_out
from turncarriage.state import State

LOAD, SET, EXECUTE, ACCUMULATOR, COUNTER, CLEAR, COST, MOVES, PLAN = range(9)
CHECK, LIST, ORDER, CHOOSE, STATE, PRINT, EXECUTE_PLAN, DIGITS, BY_POSITION = range(9, 18)

FIRST_TEXT = "desk none\nbase 10 places 12 carriage 6\nturn 1 shift 1 set 1"


def row(value):
    """A list argument: a text as its bytes, a list as it is."""
    return list(value.encode("latin-1")) if isinstance(value, str) else list(value)


def call(number, *arguments):
    """One call as it stands in the list of calls."""
    written = [number]
    for argument in arguments:
        if isinstance(argument, int):
            written.append(argument)
        else:
            written.extend([len(row(argument))] + row(argument))
    return written


def split_answers(flat):
    """The answers of a list that gives the length of each before it."""
    found = []
    at = 0
    while at < len(flat):
        end = at + 1 + flat[at]
        assert flat[at] >= 1 and end <= len(flat)
        found.append(flat[at + 1:end])
        at = end
    return found


def run(*calls):
    """The answers to calls (tuples of a number and its arguments)."""
    flat = []
    for one in calls:
        flat.extend(call(*one))
    found = split_answers(answers(flat))
    assert len(found) == len(calls)
    return found


def last(*calls):
    return run(*calls)[-1]


def numeral(value):
    text = str(value)
    return [len(text)] + [ord(sign) for sign in text]


def value(answer):
    """The number of an answer that is 0 and a numeral."""
    assert answer[0] == 0 and answer[1] == len(answer) - 2
    return int(bytes(answer[2:]).decode("ascii"))


def machine_text(base=10, places=12, carriage=6, turn=1, shift=1, setting=1, name="a"):
    return (f"desk {name}\nbase {base} places {places} carriage {carriage}\n"
            f"turn {turn} shift {shift} set {setting}")


def shifted(position):
    """The call that moves a new machine's carriage to a position."""
    return (EXECUTE, [3] * position)


def read_numerals(given):
    """The numbers of numerals that stand one behind another."""
    found = []
    at = 0
    while at < len(given):
        end = at + 1 + given[at]
        assert given[at] >= 1 and end <= len(given)
        found.append(int(bytes(given[at + 1:end]).decode("ascii")))
        at = end
    return found


def read_plan(answer):
    """lo, hi, upward and the digits of an answer to optimal_plan."""
    assert answer[0] == 1
    digits = read_numerals(answer[5:])
    assert len(digits) == answer[4]
    return (answer[1], answer[2], answer[3], digits)


def read_state(answer):
    """position, input, accumulator, counter and spent."""
    fields = read_numerals(answer[1:])
    assert len(fields) == 4
    return (answer[0], *fields)


def read_ends(answer):
    """The costs of an answer to cost_by_position, None where the carriage can't end."""
    found = []
    at = 1
    while at < len(answer):
        if answer[at] == 0:
            found.append(None)
            at += 1
        else:
            assert answer[at] == 1
            end = at + 2 + answer[at + 1]
            found.extend(read_numerals(answer[at + 1:end]))
            at = end
    assert len(found) == answer[0]
    return found


def written(integers):
    """A list of integers as a text."""
    return " ".join(str(k) for k in integers)


def representations(k, base, n):
    """All digits that the document allows for k with n + 1 places."""
    if n == 0:
        return [[k]]
    found = []
    for digit in range(-base + 1, base):
        if (k - digit) % base == 0:
            for higher in representations((k - digit) // base, base, n - 1):
                found.append([digit] + higher)
    return found


def signed_digits_by_words(k, base, n):
    # where two of them first differ, just one of the two digits is negative
    return min(representations(k, base, n),
               key=lambda digits: (sum(map(abs, digits)), [digit < 0 for digit in digits]))


def plans_by_words(k, base, carriage, turn, shift, position):
    """(cost, lo, hi, upward, digits) of all plans, in the order in which the document chooses."""
    found = []
    for lo in range(carriage):
        if k % base ** lo != 0:
            continue
        for hi in range(lo, carriage):
            digits = signed_digits_by_words(k // base ** lo, base, hi - lo)
            turns = sum(map(abs, digits))
            for upward in (1, 0):
                first = lo if upward else hi
                cost = turn * turns + shift * (abs(position - first) + hi - lo)
                found.append((cost, lo, hi, upward, digits))
    return found


def searched_costs(machine, position, integers):
    """By where the carriage ends, the least cost of any moves for a list, found step by step.

    What is searched: how many integers are done, the position, the multiplier of the moves for
    the next one. Settings are left out.
    """
    base, carriage, turn, shift = machine
    limit = max([0] + [abs(k) for k in integers]) + 2 * base ** carriage
    seen = set()
    ends = {}
    waiting = [(0, 0, position, 0)]
    while waiting:
        cost, done, at, multiplier = heapq.heappop(waiting)
        if (done, at, multiplier) in seen:
            continue
        seen.add((done, at, multiplier))
        if done == len(integers):
            ends[at] = cost
            continue
        if multiplier == integers[done]:
            heapq.heappush(waiting, (cost, done + 1, at, 0))
        if integers[done] == 0:
            continue
        weight = base ** at
        for step in ((cost + turn, done, at, multiplier + weight),
                     (cost + turn, done, at, multiplier - weight),
                     (cost + shift, done, at + 1, multiplier),
                     (cost + shift, done, at - 1, multiplier)):
            if 0 <= step[2] < carriage and abs(step[3]) <= limit:
                heapq.heappush(waiting, step)
    return ends


class Bench:
    """A machine whose state can be looked at between the operations."""

    def __init__(self):
        self.state = State(first_desk())

    def do(self, number, *arguments):
        given = [one if isinstance(one, int) else row(one) for one in arguments]
        return carry_out(self.state, number, given)

    def fields(self):
        state = self.state
        return (state.position, state.levers, state.accumulator, state.counter, state.spent)

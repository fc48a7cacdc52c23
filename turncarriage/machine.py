"""The program's interface: a list of calls on one new machine."""

from turncarriage.desks import first_desk
from turncarriage.operations import carry_out
from turncarriage.state import State

# by the operation's number: how many whole numbers and how many lists it has
SHAPES = {
    0: (0, 1),
    1: (0, 1),
    2: (0, 1),
    3: (0, 0),
    4: (0, 0),
    5: (1, 0),
    6: (0, 1),
    7: (0, 1),
    8: (0, 1),
    9: (0, 2),
    10: (0, 1),
    11: (0, 1),
    12: (0, 2),
    13: (0, 0),
    14: (0, 0),
    15: (0, 1),
    16: (1, 1),
    17: (0, 1),
}


# Slices are copies, so nothing that is handed in can be changed through them.
def read_arguments(calls, start, integers, rows):
    at = start + integers
    arguments = calls[start:at]
    for row in range(rows):
        end = at + 1 + calls[at]
        arguments.append(calls[at + 1:end])
        at = end
    return (arguments, at)


def answers(calls):
    state = State(first_desk())
    answered = []
    at = 0
    while at < len(calls):
        number = calls[at]
        arguments, at = read_arguments(calls, at + 1, SHAPES[number][0], SHAPES[number][1])
        answer = carry_out(state, number, arguments)
        answered.append(len(answer))
        answered.extend(answer)
    return answered

"""Sequences of moves."""

from turncarriage.refusals import BadMoves, BeyondEnd
from turncarriage.signed import power

TURN_FORWARD = 1
TURN_BACKWARD = 2
SHIFT_UP = 3
SHIFT_DOWN = 4

MOST_MOVES = 2000


def check_move_numbers(moves):
    if len(moves) > MOST_MOVES:
        raise BadMoves()
    for move in moves:
        if move < TURN_FORWARD or move > SHIFT_DOWN:
            raise BadMoves()


class Run:
    def __init__(self, position):
        self.position = position
        self.multiplier = 0
        self.cost = 0


# The run is told by itself, so that nothing is changed when it is refused.
def run_moves(desk, position, moves):
    run = Run(position)
    weight = power(desk.base, position)
    for move in moves:
        if move == TURN_FORWARD:
            run.multiplier += weight
            run.cost += desk.turn
        elif move == TURN_BACKWARD:
            run.multiplier -= weight
            run.cost += desk.turn
        elif move == SHIFT_UP:
            run.position += 1
            run.cost += desk.shift
            weight = weight * desk.base
        else:
            run.position -= 1
            run.cost += desk.shift
            weight = weight // desk.base
        if run.position < 0 or run.position >= desk.carriage:
            raise BeyondEnd()
    return run


def turn_moves(digit):
    if digit < 0:
        return [TURN_BACKWARD] * -digit
    return [TURN_FORWARD] * digit


def shift_moves(start, end):
    if end < start:
        return [SHIFT_DOWN] * (start - end)
    return [SHIFT_UP] * (end - start)

"""The operations: each is handed the state and a list of its arguments.

Whatever can refuse an operation stands before its first change of the state.
"""

from turncarriage.desks import read_desk
from turncarriage.moving import check_moves, run_moves
from turncarriage.plans import best_moves, best_plan, least_cost
from turncarriage.refusals import BeyondCapacity, OutOfRange, Refusal
from turncarriage.wording import check_bytes, numeral, read_decimal, read_integer


def load_machine(state, arguments):
    text = arguments[0]
    check_bytes(text)
    state.restart(read_desk(text))
    return [0]


def set_input(state, arguments):
    number = read_decimal(arguments[0])
    if number >= state.desk.capacity():
        raise BeyondCapacity()
    state.levers = number
    state.spent += state.desk.setting
    return [0]


def execute(state, arguments):
    moves = arguments[0]
    check_moves(moves)
    run = run_moves(state.desk, state.position, moves)
    state.take_run(run)
    return [0, run.position] + numeral(run.cost)


def accumulator(state, arguments):
    return [0] + numeral(state.accumulator)


def counter(state, arguments):
    return [0] + numeral(state.counter)


def clear(state, arguments):
    which = arguments[0]
    if which == 1:
        state.accumulator = 0
    elif which == 2:
        state.counter = 0
    else:
        raise OutOfRange()
    return [0]


def minimum_cost(state, arguments):
    k = read_integer(arguments[0])
    return [0] + numeral(least_cost(k, state.desk, state.position))


def optimal_moves(state, arguments):
    k = read_integer(arguments[0])
    moves = best_moves(k, state.desk, state.position)
    return [len(moves)] + moves


def optimal_plan(state, arguments):
    k = read_integer(arguments[0])
    if k == 0:
        return [0]
    plan = best_plan(k, state.desk, state.position)
    upward = 1 if plan.upward else 0
    answer = [1, plan.lo, plan.hi, upward, len(plan.digits)]
    for digit in plan.digits:
        answer.extend(numeral(digit))
    return answer


OPERATIONS = {
    0: load_machine,
    1: set_input,
    2: execute,
    3: accumulator,
    4: counter,
    5: clear,
    6: minimum_cost,
    7: optimal_moves,
    8: optimal_plan,
}


def carry_out(state, number, arguments):
    try:
        return OPERATIONS[number](state, arguments)
    except Refusal as refusal:
        return [refusal.code]

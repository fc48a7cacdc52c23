"""The operations: each is handed the state and a list of its arguments.

Whatever can refuse an operation stands before its first change of the state.
"""

from turncarriage.desks import desk_text, read_desk
from turncarriage.moving import check_move_numbers, run_moves
from turncarriage.plans import best_moves, best_plan, least_cost
from turncarriage.refusals import BeyondCapacity, BeyondEnd, OutOfRange, Refusal
from turncarriage.sequences import cheapest_order, least_list_cost, plan_costs_by_end
from turncarriage.signed import signed_digits
from turncarriage.wording import check_bytes, numeral, numerals, read_decimal, read_integer, read_integers

MOST_IN_LIST = 8
MOST_IN_ORDER = 5
HIGHEST_PLACE = 11


def load_machine(state, arguments):
    text = arguments[0]
    check_bytes(text)
    state.restart(read_desk(text))
    return [0]


def set_input(state, arguments):
    number = read_decimal(arguments[0])
    if number >= state.desk.capacity():
        raise BeyondCapacity()
    state.levers = number
    state.spent += state.desk.setting
    return [0]


def execute(state, arguments):
    moves = arguments[0]
    check_move_numbers(moves)
    return make_moves(state, moves)


def make_moves(state, moves):
    run = run_moves(state.desk, state.position, moves)
    state.take_run(run)
    return [0, run.position] + numeral(run.cost)


def accumulator(state, arguments):
    return [0] + numeral(state.accumulator)


def counter(state, arguments):
    return [0] + numeral(state.counter)


def clear(state, arguments):
    which = arguments[0]
    if which == 1:
        state.accumulator = 0
    elif which == 2:
        state.counter = 0
    else:
        raise OutOfRange()
    return [0]


def minimum_cost(state, arguments):
    k = read_integer(arguments[0])
    return [0] + numeral(least_cost(k, state.desk, state.position))


def optimal_moves(state, arguments):
    k = read_integer(arguments[0])
    moves = best_moves(k, state.desk, state.position)
    return [len(moves)] + moves


def optimal_plan(state, arguments):
    k = read_integer(arguments[0])
    if k == 0:
        return [0]
    plan = best_plan(k, state.desk, state.position)
    upward = 1 if plan.upward else 0
    return [1, plan.lo, plan.hi, upward, len(plan.digits)] + numerals(plan.digits)


def check_moves(state, arguments):
    k = read_integer(arguments[0])
    moves = arguments[1]
    check_move_numbers(moves)
    try:
        run = run_moves(state.desk, state.position, moves)
    except BeyondEnd:
        return [0]
    if run.multiplier != k:
        return [0]
    return [1] + numeral(run.cost)


def list_cost(state, arguments):
    integers = read_integers(arguments[0], MOST_IN_LIST)
    return [0] + numeral(least_list_cost(integers, state.desk, state.position))


def best_order(state, arguments):
    integers = read_integers(arguments[0], MOST_IN_ORDER)
    order = cheapest_order(integers, state.desk, state.position)
    return [len(order)] + order


def choose_multiplier(state, arguments):
    a = read_integer(arguments[0])
    k = read_integer(arguments[1])
    cost_of_a = least_cost(a, state.desk, state.position)
    cost_of_k = least_cost(k, state.desk, state.position)
    if cost_of_a < cost_of_k:
        return [1] + numeral(cost_of_a)
    return [2] + numeral(cost_of_k)


def show_state(state, arguments):
    return [state.position] + numerals([state.levers, state.accumulator, state.counter, state.spent])


def print_machine(state, arguments):
    text = desk_text(state.desk)
    return [0, len(text)] + text


def execute_plan(state, arguments):
    k = read_integer(arguments[0])
    return make_moves(state, best_moves(k, state.desk, state.position))


def show_signed_digits(state, arguments):
    n = arguments[0]
    if n < 0 or n > HIGHEST_PLACE:
        raise OutOfRange()
    k = read_integer(arguments[1])
    return [n + 1] + numerals(signed_digits(k, state.desk.base, n))


def cost_by_position(state, arguments):
    integers = read_integers(arguments[0], MOST_IN_LIST)
    costs = plan_costs_by_end(integers, state.desk, state.position)
    answer = [state.desk.carriage]
    for position in range(state.desk.carriage):
        if position in costs:
            answer.append(1)
            answer.extend(numeral(costs[position]))
        else:
            answer.append(0)
    return answer


OPERATIONS = {
    0: load_machine,
    1: set_input,
    2: execute,
    3: accumulator,
    4: counter,
    5: clear,
    6: minimum_cost,
    7: optimal_moves,
    8: optimal_plan,
    9: check_moves,
    10: list_cost,
    11: best_order,
    12: choose_multiplier,
    13: show_state,
    14: print_machine,
    15: execute_plan,
    16: show_signed_digits,
    17: cost_by_position,
}


def carry_out(state, number, arguments):
    try:
        return OPERATIONS[number](state, arguments)
    except Refusal as refusal:
        return [refusal.code]

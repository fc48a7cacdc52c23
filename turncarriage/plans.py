"""Optimal plans for integers other than 0."""

from turncarriage.moving import MOST_MOVES, shift_moves, turn_moves
from turncarriage.refusals import PlanTooLong
from turncarriage.signed import power, signed_digits, turn_count


class Plan:
    def __init__(self, cost, lo, hi, upward):
        self.cost = cost
        self.lo = lo
        self.hi = hi
        self.upward = upward
        self.digits = []


# The highest position that the lowest turn may stand at.
def highest_lo(k, desk):
    lo = 0
    while lo + 1 < desk.carriage and k % power(desk.base, lo + 1) == 0:
        lo += 1
    return lo


# What the turns cost at least, by the highest position. The digits below lo
# would all be 0, so their sum is the same for each lo.
def turning_costs(k, desk):
    return [desk.turn * turn_count(signed_digits(k, desk.base, hi)) for hi in range(desk.carriage)]


# Each plan as its cost, lo, hi, and 0 if it is upward (1 if it is downward): in
# this order the least of the tuples is the optimal plan.
def possible_plans(k, desk, position):
    plans = []
    top = highest_lo(k, desk)
    for hi, turning in enumerate(turning_costs(k, desk)):
        for lo in range(min(hi, top) + 1):
            upward = abs(position - lo) + hi - lo
            downward = abs(position - hi) + hi - lo
            plans.append((turning + desk.shift * upward, lo, hi, 0))
            plans.append((turning + desk.shift * downward, lo, hi, 1))
    return plans


def best_plan(k, desk, position):
    cost, lo, hi, downward = min(possible_plans(k, desk, position))
    plan = Plan(cost, lo, hi, downward == 0)
    plan.digits = signed_digits(k // power(desk.base, lo), desk.base, hi - lo)
    return plan


def least_cost(k, desk, position):
    if k == 0:
        return 0
    return best_plan(k, desk, position).cost


def plan_moves(plan, position):
    start = plan.lo if plan.upward else plan.hi
    shifts = abs(position - start) + plan.hi - plan.lo
    # the turns may be far too many for a list, so they are counted beforehand
    if turn_count(plan.digits) + shifts > MOST_MOVES:
        raise PlanTooLong()
    moves = []
    carriage = position
    for place in places_in_order(plan):
        moves.extend(shift_moves(carriage, place))
        moves.extend(turn_moves(plan.digits[place - plan.lo]))
        carriage = place
    return moves


def places_in_order(plan):
    places = list(range(plan.lo, plan.hi + 1))
    if plan.upward:
        return places
    return list(reversed(places))


def best_moves(k, desk, position):
    if k == 0:
        return []
    return plan_moves(best_plan(k, desk, position), position)

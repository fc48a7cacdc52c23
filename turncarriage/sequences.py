"""Several multiplications, one behind another.

The least costs of turns and shifts so far are kept in a dict, by the position
where the carriage may stand. A table tells the costs of one multiplication, by
the position where the carriage begins and the one where it ends.
"""

from turncarriage.plans import highest_lo, turning_costs


# At each place the least of the values from there on.
def least_onward(values):
    least = list(values)
    for at in range(len(values) - 2, -1, -1):
        least[at] = min(least[at], least[at + 1])
    return least


# For any moves with the multiplier k. The carriage passes each position from a
# lowest to a highest one: those between start and end once, the others twice.
# To go lower than start, end and the lowest turn need would save no turns.
def move_table(k, desk):
    top = highest_lo(k, desk)
    twice = 2 * desk.shift
    highest = least_onward([cost + twice * hi for hi, cost in enumerate(turning_costs(k, desk))])
    table = []
    for start in range(desk.carriage):
        row = []
        for end in range(desk.carriage):
            lo = min(start, end, top)
            row.append(highest[max(start, end)] - twice * lo - desk.shift * abs(start - end))
        table.append(row)
    return table


# For plans alone: an upward one ends at its hi, a downward one at its lo.
def plan_table(k, desk):
    top = highest_lo(k, desk)
    turning = turning_costs(k, desk)
    table = []
    for start in range(desk.carriage):
        row = []
        for hi in range(desk.carriage):
            # a lower lo makes the way longer, a higher one doesn't make it shorter
            lo = min(start, hi, top)
            row.append(turning[hi] + desk.shift * (start - lo + hi - lo))
        ways = [cost + desk.shift * (abs(start - hi) + hi) for hi, cost in enumerate(turning)]
        downward = least_onward(ways)
        for lo in range(top + 1):
            row[lo] = min(row[lo], downward[lo] - desk.shift * lo)
        table.append(row)
    return table


# None stands where there are no moves.
def move_tables(integers, desk):
    return [None if k == 0 else move_table(k, desk) for k in integers]


def costs_after(costs, table):
    if table is None:
        return costs
    after = {}
    for end in range(len(table)):
        after[end] = min([cost + table[start][end] for start, cost in costs.items()])
    return after


def costs_by_end(tables, position):
    costs = {position: 0}
    for table in tables:
        costs = costs_after(costs, table)
    return costs


def least_list_cost(integers, desk, position):
    costs = costs_by_end(move_tables(integers, desk), position)
    return desk.setting * len(integers) + min(costs.values())


def plan_costs_by_end(integers, desk, position):
    return costs_by_end([plan_table(k, desk) for k in integers if k != 0], position)


# Each order that is begun, with each index that it lacks: what its costs are so
# far is found once for all orders that begin so.
def longer_orders(orders, tables):
    longer = []
    for order, costs in orders:
        for at, table in enumerate(tables):
            if at not in order:
                longer.append((order + [at], costs_after(costs, table)))
    return longer


# The settings are left out, as they cost the same in each order. Of pairs with
# equal costs the least is the one with the lexicographically smallest order.
def cheapest_order(integers, desk, position):
    tables = move_tables(integers, desk)
    orders = [([], {position: 0})]
    for length in range(len(integers)):
        orders = longer_orders(orders, tables)
    return min([(min(costs.values()), order) for order, costs in orders])[1]

"""Powers and signed digits."""


def power(base, exponent):
    value = 1
    for step in range(exponent):
        value = value * base
    return value


# The value left at each place, if no carry comes from below.
def values_left(k, base, n):
    left = [k]
    for place in range(n):
        left.append(left[place] // base)
    return left


# A column is a sum of absolute values with the digits it is taken of, from some
# place upward. The two above are for a quotient without and with a carry.
def lower_column(value, base, quotient, plain, carried):
    digit = value % base
    if digit == 0 and value // base > quotient:
        return (carried[0], [0] + carried[1])
    if digit == 0:
        return (plain[0], [0] + plain[1])
    # of equal sums the one whose lowest digit isn't negative
    if carried[0] + base - digit < plain[0] + digit:
        return (carried[0] + base - digit, [digit - base] + carried[1])
    return (plain[0] + digit, [digit] + plain[1])


# A digit below the highest is what is left there modulo the base, or that less
# the base with a carry of 1: so two columns at each place tell all choices.
def signed_digits(k, base, n):
    left = values_left(k, base, n)
    plain = (abs(left[n]), [left[n]])
    carried = (abs(left[n] + 1), [left[n] + 1])
    for place in range(n - 1, -1, -1):
        lower_plain = lower_column(left[place], base, left[place + 1], plain, carried)
        lower_carried = lower_column(left[place] + 1, base, left[place + 1], plain, carried)
        plain = lower_plain
        carried = lower_carried
    return plain[1]


def turn_count(digits):
    return sum([abs(digit) for digit in digits])

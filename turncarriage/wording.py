"""Texts as lists of bytes: decimals, integers, names and numerals."""

from turncarriage.refusals import BadForm, NotBytes, TooManyIntegers

LONGEST_ROW = 1000
LONGEST_DECIMAL = 300
LONGEST_INTEGER = 40
LONGEST_NAME = 12

LINE_FEED = 10
SPACE = 32
MINUS = 45
DIGIT_ZERO = 48
DIGIT_NINE = 57
LETTER_A = 97
LETTER_Z = 122


def text_bytes(text):
    return [ord(sign) for sign in text]


def numeral(number):
    written = text_bytes(str(number))
    return [len(written)] + written


def numerals(numbers):
    written = []
    for number in numbers:
        written.extend(numeral(number))
    return written


def check_bytes(row):
    if len(row) > LONGEST_ROW:
        raise NotBytes()
    for byte in row:
        if byte < 0 or byte > 255:
            raise NotBytes()


def is_name(row):
    if len(row) < 1 or len(row) > LONGEST_NAME:
        return False
    return all([LETTER_A <= byte <= LETTER_Z for byte in row])


def is_decimal(row):
    if len(row) < 1 or len(row) > LONGEST_DECIMAL:
        return False
    if len(row) > 1 and row[0] == DIGIT_ZERO:
        return False
    return all([DIGIT_ZERO <= byte <= DIGIT_NINE for byte in row])


def decimal_value(row):
    value = 0
    for byte in row:
        value = value * 10 + byte - DIGIT_ZERO
    return value


def read_decimal(row):
    check_bytes(row)
    if not is_decimal(row):
        raise BadForm()
    return decimal_value(row)


def read_integer(row):
    check_bytes(row)
    return integer_value(row)


# No bytes are a list without integers, though nothing between two spaces would
# be an integer of a wrong form.
def read_integers(row, most):
    check_bytes(row)
    if len(row) == 0:
        return []
    integers = [integer_value(part) for part in split_at_spaces(row)]
    if len(integers) > most:
        raise TooManyIntegers()
    return integers


def split_at_spaces(row):
    parts = [[]]
    for byte in row:
        if byte == SPACE:
            parts.append([])
        else:
            parts[-1].append(byte)
    return parts


def integer_value(row):
    if row[:1] == [MINUS]:
        size = size_value(row[1:])
        # `-0` would be a second text of the integer 0
        if size == 0:
            raise BadForm()
        return -size
    return size_value(row)


def size_value(row):
    if len(row) > LONGEST_INTEGER or not is_decimal(row):
        raise BadForm()
    return decimal_value(row)

"""Texts as lists of bytes: decimals, integers, names and numerals."""

from turncarriage.refusals import BadForm, NotBytes

LONGEST_ROW = 1000
LONGEST_DECIMAL = 300
LONGEST_INTEGER = 40
LONGEST_NAME = 12

MINUS = 45
DIGIT_ZERO = 48
DIGIT_NINE = 57
LETTER_A = 97
LETTER_Z = 122


def text_bytes(text):
    return [ord(sign) for sign in text]


def numeral(number):
    written = text_bytes(str(number))
    return [len(written)] + written


def check_bytes(row):
    if len(row) > LONGEST_ROW:
        raise NotBytes()
    for byte in row:
        if byte < 0 or byte > 255:
            raise NotBytes()


def is_name(row):
    if len(row) < 1 or len(row) > LONGEST_NAME:
        return False
    return all([LETTER_A <= byte <= LETTER_Z for byte in row])


def is_decimal(row):
    if len(row) < 1 or len(row) > LONGEST_DECIMAL:
        return False
    if len(row) > 1 and row[0] == DIGIT_ZERO:
        return False
    return all([DIGIT_ZERO <= byte <= DIGIT_NINE for byte in row])


def decimal_value(row):
    value = 0
    for byte in row:
        value = value * 10 + byte - DIGIT_ZERO
    return value


def read_decimal(row):
    check_bytes(row)
    if not is_decimal(row):
        raise BadForm()
    return decimal_value(row)


def read_integer(row):
    check_bytes(row)
    if row[:1] == [MINUS]:
        size = read_size(row[1:])
        # `-0` would be a second text of the integer 0
        if size == 0:
            raise BadForm()
        return -size
    return read_size(row)


def read_size(row):
    if len(row) > LONGEST_INTEGER or not is_decimal(row):
        raise BadForm()
    return decimal_value(row)

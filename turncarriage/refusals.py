"""The refusals: each error class knows the code that is answered for it."""


class Refusal(Exception):
    pass


class NotBytes(Refusal):
    def __init__(self):
        self.code = -1


class OutOfRange(Refusal):
    def __init__(self):
        self.code = -2


class BadMoves(Refusal):
    def __init__(self):
        self.code = -4


class BadForm(Refusal):
    def __init__(self):
        self.code = -5


class BeyondEnd(Refusal):
    def __init__(self):
        self.code = -6


class TooManyIntegers(Refusal):
    def __init__(self):
        self.code = -7


class PlanTooLong(Refusal):
    def __init__(self):
        self.code = -8


class BeyondCapacity(Refusal):
    def __init__(self):
        self.code = -9


class BadSyntax(Refusal):
    def __init__(self, offset):
        self.code = -1000 - offset

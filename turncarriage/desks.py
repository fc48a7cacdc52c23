"""The description of a machine, and its text."""

from turncarriage.signed import power
from turncarriage.tokenreader import TokenReader
from turncarriage.wording import LINE_FEED, text_bytes

LARGEST_BASE = 36
MOST_PLACES = 40
MOST_POSITIONS = 12
LARGEST_COST = 1000


class Desk:
    def __init__(self, name):
        self.name = name
        self.base = 10
        self.places = 12
        self.carriage = 6
        self.turn = 1
        self.shift = 1
        self.setting = 1

    def capacity(self):
        return power(self.base, self.places)


def first_desk():
    return Desk(text_bytes("none"))


def read_desk(text):
    reader = TokenReader(text)
    reader.take_word("desk")
    desk = Desk(reader.take_name())
    reader.take_line_feed()
    desk.base = reader.take_field("base", 2, LARGEST_BASE)
    desk.places = reader.take_field("places", 1, MOST_PLACES)
    desk.carriage = reader.take_field("carriage", 1, MOST_POSITIONS)
    reader.take_line_feed()
    desk.turn = reader.take_field("turn", 0, LARGEST_COST)
    desk.shift = reader.take_field("shift", 0, LARGEST_COST)
    desk.setting = reader.take_field("set", 0, LARGEST_COST)
    reader.take_end()
    return desk


def written_fields(fields):
    return text_bytes(" ".join([f"{word} {number}" for word, number in fields]))


def desk_text(desk):
    first = text_bytes("desk ") + desk.name
    second = written_fields([("base", desk.base), ("places", desk.places), ("carriage", desk.carriage)])
    third = written_fields([("turn", desk.turn), ("shift", desk.shift), ("set", desk.setting)])
    return first + [LINE_FEED] + second + [LINE_FEED] + third

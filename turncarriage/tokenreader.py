"""Reading a text token by token, with the offset of the first bad one."""

from turncarriage.refusals import BadSyntax
from turncarriage.wording import LINE_FEED, SPACE, decimal_value, is_decimal, is_name, text_bytes


# Gives pairs of an offset and the token's bytes. An empty line gives an empty
# token where the second line feed stands: the offset of the error is the same.
def split_tokens(text):
    tokens = []
    start = 0
    for at, byte in enumerate(text):
        if byte == SPACE or byte == LINE_FEED:
            tokens.append((start, text[start:at]))
            start = at + 1
        if byte == LINE_FEED:
            tokens.append((at, [LINE_FEED]))
    tokens.append((start, text[start:]))
    return tokens


class TokenReader:
    def __init__(self, text):
        self.tokens = split_tokens(text)
        self.length = len(text)
        self.at = 0

    def offset(self):
        if self.at < len(self.tokens):
            return self.tokens[self.at][0]
        return self.length

    # An empty token isn't allowed anywhere, so it may stand for a missing one.
    def token(self):
        if self.at < len(self.tokens):
            return self.tokens[self.at][1]
        return []

    def take_word(self, word):
        if self.token() != text_bytes(word):
            raise BadSyntax(self.offset())
        self.at += 1

    def take_line_feed(self):
        if self.token() != [LINE_FEED]:
            raise BadSyntax(self.offset())
        self.at += 1

    def take_name(self):
        name = self.token()
        if not is_name(name):
            raise BadSyntax(self.offset())
        self.at += 1
        return name

    def take_decimal(self, least, most):
        row = self.token()
        if not is_decimal(row) or not least <= decimal_value(row) <= most:
            raise BadSyntax(self.offset())
        self.at += 1
        return decimal_value(row)

    def take_field(self, word, least, most):
        self.take_word(word)
        return self.take_decimal(least, most)

    def take_end(self):
        if self.at < len(self.tokens):
            raise BadSyntax(self.offset())

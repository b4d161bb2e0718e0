"""The tokens of books: words, numbers and signs."""

from suretrips.errors import BadText, TooMany
from suretrips.helpers import FIGURES

KEYWORDS = ("along", "ask", "both", "follow", "followers", "in", "known", "least", "most", "not", "out", "places",
            "road", "say", "sure", "touch")
LETTERS = "abcdefghijklmnopqrstuvwxyz"
WORD_SIGNS = "abcdefghijklmnopqrstuvwxyz0123456789"
SINGLE_SIGNS = (";", ":", ">", "?")
BLANKS = (" ", "\n")
NAME_SIGNS = 8
NUMBER_FIGURES = 31


def row_end(text, start, signs):
    """Where the row of such signs ends that begins at start in text."""
    end = start
    while end < len(text) and text[end] in signs:
        end += 1
    return end


def is_word(text):
    """Whether a row of signs of words, a letter ahead, is a word."""
    return len(text) <= NAME_SIGNS or text in KEYWORDS


def is_number(text):
    """Whether a row of figures is a number."""
    return text == "0" or (text[0] != "0" and len(text) <= NUMBER_FIGURES)


def is_name(value):
    """Whether value is a name."""
    if not isinstance(value, str) or value in KEYWORDS or not 1 <= len(value) <= NAME_SIGNS:
        return False
    return value[0] in LETTERS and row_end(value, 0, WORD_SIGNS) == len(value)


def token_at(text, start):
    """The token that begins at start in text, as a triple of its sort, its text and its place."""
    if text[start] in LETTERS:
        row = text[start:row_end(text, start, WORD_SIGNS)]
        if is_word(row):
            return ("word", row, start)
    elif text[start] in FIGURES:
        row = text[start:row_end(text, start, FIGURES)]
        if is_number(row):
            return ("number", row, start)
    elif text[start] in SINGLE_SIGNS:
        return ("sign", text[start], start)
    elif text[start:start + 2] == "..":
        return ("sign", "..", start)
    raise BadText(start)


class Reader:
    """Reads a text token by token; a fault is found when its token is come to, not ahead of that."""

    def __init__(self, value):
        if not isinstance(value, str):
            raise BadText(0)
        self.told = value
        self.end = 0

    def ahead(self):
        """The next token, which is not read yet; None if there is none left."""
        start = row_end(self.told, self.end, BLANKS)
        return token_at(self.told, start) if start < len(self.told) else None

    def read(self):
        """The next token."""
        token = self.ahead()
        if token is None:
            raise BadText(len(self.told))
        _, text, place = token
        self.end = place + len(text)
        return token

    def comes(self, *words):
        """Whether the next token is one of words."""
        token = self.ahead()
        return token is not None and token[1] in words

    def name_comes(self):
        """Whether the next token is a name."""
        token = self.ahead()
        return token is not None and is_name(token[1])

    def number_comes(self):
        """Whether the next token is a number."""
        token = self.ahead()
        return token is not None and token[0] == "number"

    def want(self, *words):
        """The text of the next token, which has to be one of words."""
        _, text, place = self.read()
        if text not in words:
            raise BadText(place)
        return text

    def want_name(self):
        """The next token, which has to be a name, as a pair of its text and its place."""
        _, text, place = self.read()
        if not is_name(text):
            raise BadText(place)
        return text, place

    def want_number(self, limit):
        """The number that the next token has to be, and that must not be more than limit."""
        sort, text, place = self.read()
        if sort != "number":
            raise BadText(place)
        number = int(text)
        if number > limit:
            raise TooMany(limit)
        return number

    def want_end(self):
        """Nothing may come any more."""
        token = self.ahead()
        if token is not None:
            raise BadText(token[2])


def tokens(value):
    """All tokens of value, each a triple of its sort, its text and its place."""
    reader = Reader(value)
    found = []
    while reader.ahead() is not None:
        found.append(reader.read())
    return tuple(found)

"""The texts of faults, read to faults."""

from shrinkhouse.errors import NoFault
from shrinkhouse.faults import All, Any, Before, Beside, Has, Many, Not, Under
from shrinkhouse.marks import LETTERS, is_mark

FIGURES = "0123456789"
MOST_FIGURES = 9
FEWEST_PARTS = 2
MOST_PARTS = 6
DEEPEST = 8
MOST_FAULTS = 60


def pair_fault(word, one, other):
    if word == "before":
        return Before(one, other)
    if word == "under":
        return Under(one, other)
    return Beside(one, other)


class Reader:
    """A text, how far it was read, and how many faults were met in it so far."""

    def __init__(self, text):
        self.text = text
        self.at = 0
        self.met = 0

    def is_at_end(self):
        return self.at == len(self.text)

    def is_at(self, sign):
        return not self.is_at_end() and self.text[self.at] == sign

    def read_sign(self, sign):
        if not self.is_at(sign):
            raise NoFault("a bracket or a comma is missing")
        self.at += 1

    def read_run(self, signs):
        start = self.at
        while not self.is_at_end() and self.text[self.at] in signs:
            self.at += 1
        return self.text[start:self.at]

    def read_mark(self):
        mark = self.read_run(LETTERS)
        if not is_mark(mark):
            raise NoFault("a mark is missing or too long")
        return mark

    def read_number(self):
        figures = self.read_run(FIGURES)
        if not 1 <= len(figures) <= MOST_FIGURES:
            raise NoFault("a number is missing or too long")
        if figures[0] == "0":
            raise NoFault("a number begins with a nought")
        return int(figures)

    def read_next(self, deep):
        # Refused on the way down, so that no text leads deeper or on for longer than a fault may.
        self.met += 1
        if deep > DEEPEST or self.met > MOST_FAULTS:
            raise NoFault("too deep, or too many faults")
        word = self.read_run(LETTERS)
        self.read_sign("(")
        fault = self.read_inside(word, deep)
        self.read_sign(")")
        return fault

    def read_inside(self, word, deep):
        if word == "has":
            return Has(self.read_mark())
        if word == "many":
            return self.read_many()
        if word in ("before", "under", "beside"):
            return self.read_pair(word)
        if word == "all":
            return All(self.read_parts(deep + 1))
        if word == "any":
            return Any(self.read_parts(deep + 1))
        if word == "not":
            return Not(self.read_next(deep + 1))
        raise NoFault("a word that names no fault")

    def read_many(self):
        number = self.read_number()
        self.read_sign(",")
        return Many(number, self.read_mark())

    def read_pair(self, word):
        one = self.read_mark()
        self.read_sign(",")
        return pair_fault(word, one, self.read_mark())

    def read_parts(self, deep):
        parts = [self.read_next(deep)]
        while self.is_at(","):
            self.read_sign(",")
            parts.append(self.read_next(deep))
        if not FEWEST_PARTS <= len(parts) <= MOST_PARTS:
            raise NoFault("too few or too many parts")
        return parts


def read_fault(text):
    if not isinstance(text, str):
        raise NoFault("no text")
    reader = Reader(text)
    fault = reader.read_next(1)
    if not reader.is_at_end():
        raise NoFault("something stands behind the fault")
    return fault

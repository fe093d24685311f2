"""The desk: it is told rows, one at a time, and answers each with a text."""

from shrinkhouse.asking import Asker
from shrinkhouse.bars import bars, needed
from shrinkhouse.errors import NoRow
from shrinkhouse.faults import Has
from shrinkhouse.faulttexts import FIGURES, MOST_FIGURES, read_fault
from shrinkhouse.rules import check_rules
from shrinkhouse.shrinking import shrunk
from shrinkhouse.things import Row
from shrinkhouse.thingtexts import read_thing, show_thing

FIRST_RULES = ("halves", "ones")
FIRST_MOST = 10000


def read_most(word):
    if not 1 <= len(word) <= MOST_FIGURES:
        raise NoRow("a number is missing or too long")
    if not all([sign in FIGURES for sign in word]):
        raise NoRow("a number that is not of figures alone")
    if word[0] == "0" and word != "0":
        raise NoRow("a number begins with a nought")
    return int(word)


def one_word(text):
    if " " in text:
        raise NoRow("more words than one")
    return text


def show_places(places):
    return " ".join([str(place) for place in places])


class Desk:
    """A thing, a fault and a number that an asker holds, rules, and what the last shrinking kept."""

    def __init__(self):
        self.rules = list(FIRST_RULES)
        self.begin(Row([]), Has("a"), FIRST_MOST)

    def begin(self, thing, fault, most):
        self.asker = Asker(thing, fault, most)
        self.kept = None

    def say(self, row):
        if not isinstance(row, str):
            raise NoRow("no text")
        parts = row.partition(" ")
        if parts[1] == "":
            return self.answer(row)
        self.take(parts[0], parts[2])
        return "ok"

    def take(self, word, rest):
        # Read ahead of any change, so that what is refused changes nothing.
        if word == "thing":
            self.begin(read_thing(rest), self.asker.fault, self.asker.most)
        elif word == "fault":
            self.begin(self.asker.thing(), read_fault(one_word(rest)), self.asker.most)
        elif word == "most":
            self.begin(self.asker.thing(), self.asker.fault, read_most(rest))
        elif word == "rules":
            self.take_rules(rest.split(" "))
        else:
            raise NoRow("a row that the desk does not take")

    def take_rules(self, rules):
        check_rules(rules)
        self.rules = rules

    def answer(self, word):
        if word == "shrink":
            return self.shrink()
        if word == "left":
            return self.show_left()
        if word == "asked":
            return str(self.asker.asked())
        if word == "needed":
            return show_places(needed(self.asker)) or "none"
        if word == "bars":
            return self.show_bars()
        if word == "grows":
            return "yes" if self.asker.grows() else "no"
        raise NoRow("a row that the desk does not take")

    def shrink(self):
        end = shrunk(self.asker, self.rules)
        self.kept = end[1]
        return end[0] + " " + self.show_left()

    def show_left(self):
        if self.kept is None:
            return "none"
        return show_thing(self.asker.thing().left(self.kept))

    def show_bars(self):
        if self.kept is None:
            return "none"
        found = bars(self.asker, self.kept)
        # None where None is told, an empty list where no places are left.
        if not found:
            return "none"
        return " / ".join([show_places(bar) for bar in found])

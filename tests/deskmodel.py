"""The desk by the words of point 27 and of the interface, written apart from the program."""

import re

from askmodels import Book, Refused, bars_of, needed_of, shrunk_of
from faultmodels import grows_of
from samples import RULES
from shrinkhouse.things import Forest, Row, Table
from textmodels import form_of_text, text_of_form


def thing_of_form(form):
    if form[0] == "row":
        return Row(list(form[1]))
    if form[0] == "forest":
        return Forest(list(form[1]))
    return Table([list(line) for line in form[2]])


def words_of_places(places):
    return " ".join(str(place) for place in places)


class DeskModel:
    """It knows the texts of some faults, a dict from text to model; any other fault text is refused."""

    def __init__(self, faults):
        self.faults = faults
        self.rules = ["halves", "ones"]
        self.anew(Row([]), ("has", "a"), 10000)

    def anew(self, thing, model, most):
        self.book = Book(thing, model, most)
        self.kept = None
        return "ok"

    def say(self, row):
        if not isinstance(row, str):
            raise Refused("NoRow")
        words = re.split(" ", row)
        if words[0] == "thing" and len(words) >= 2:
            return self.told_thing(row[len("thing "):])
        if words[0] == "fault" and len(words) == 2:
            return self.told_fault(words[1])
        if words[0] == "rules" and len(words) >= 2:
            return self.told_rules(words[1:])
        if words[0] == "most" and len(words) == 2 and re.fullmatch("0|[1-9][0-9]{0,8}", words[1]):
            return self.anew(self.book.thing, self.book.model, int(words[1]))
        if row in ("shrink", "left", "asked", "needed", "bars", "grows"):
            return getattr(self, row)()
        raise Refused("NoRow")

    def told_thing(self, text):
        form = form_of_text(text)
        if form is None:
            raise Refused("NoText")
        return self.anew(thing_of_form(form), self.book.model, self.book.most)

    def told_fault(self, text):
        if text not in self.faults:
            raise Refused("NoFault")
        return self.anew(self.book.thing, self.faults[text], self.book.most)

    def told_rules(self, words):
        if [word for word in words if word not in RULES or words.count(word) > 1]:
            raise Refused("NoRule")
        self.rules = words
        return "ok"

    def shrink(self):
        end, self.kept, steps = shrunk_of(self.book, self.rules)
        return end + " " + self.left()

    def left(self):
        return "none" if self.kept is None else text_of_form(self.book.thing.left(self.kept).form())

    def asked(self):
        return str(len(self.book.log))

    def needed(self):
        return words_of_places(needed_of(self.book)) or "none"

    def bars(self):
        if not self.kept:
            return "none"
        bars = bars_of(self.book, self.kept)
        return "none" if bars is None else " / ".join(words_of_places(bar) for bar in bars)

    def grows(self):
        return "yes" if grows_of(self.book.model) else "no"

"""Point 3, from the text of a thing and of a fault to the answers of the desk, and sessions of many rows."""

import unittest
from random import Random

from askmodels import Refused, bound_of, groups_of, places_of
from deskmodel import DeskModel, thing_of_form
from faultmodels import DEEP, JOINTS, LEAVES, grows_of, holds_of, of_faults, text_of
from samples import RULES, lists_of_rules, small_forests, small_rows, small_tables, some_of
from shrinkhouse import errors
from shrinkhouse.desk import Desk
from shrinkhouse.faulttexts import read_fault
from shrinkhouse.things import Forest, Row
from shrinkhouse.thingtexts import read_thing, show_thing
from textmodels import form_of_text, text_of_form

MODELS = [
    ("has", "a"), ("many", 2, "a"), ("before", "a", "b"), ("before", "b", "a"), ("under", "a", "b"),
    ("under", "b", "a"), ("all", ("has", "a"), ("has", "b")),
    ("any", ("many", 2, "b"), ("under", "a", "c"), ("before", "c", "a")),
    ("any", ("all", ("has", "a"), ("has", "b")), ("all", ("has", "b"), ("has", "c")),
     ("all", ("has", "a"), ("has", "c"))),
    ("beside", "a", "b"), ("not", ("has", "b")), ("not", ("before", "b", "a")),
    ("all", ("has", "a"), ("any", ("not", ("has", "b")), ("many", 2, "b"))),
]
FAULTS = {text_of(model): model for model in MODELS + LEAVES + JOINTS + DEEP + [of_faults(60)]}

THINGS = [
    "row", "row a", "row b", "row a b", "row b a", "row a b a b", "row c b b a", "row a b c a b c", "row a a a a a",
    "row c a c b c a c b", "forest", "forest a", "forest a(b)", "forest b(a)", "forest a,b", "forest a(b(c),b),a(c)",
    "forest c,a(b)", "forest a(a(b(a,b))),b(a)", "forest c(a,b,c(a)),b(b,a)", "table", "table -", "table - / -",
    "table a", "table a b", "table a / b", "table b / a", "table a b / b a", "table a b / b a / c c",
    "table a b c / c a b / b c a",
]
ASKING = ["shrink", "left", "asked", "needed", "bars", "grows"]
WRONG = [
    "", " ", "thing", "thing ", "thing row ", "thing row A", "thing  row", "thing table a b / c", "thing forest a()",
    "fault", "fault ", "fault has(a) ", "fault has(A)", "fault not()", "fault " + text_of(of_faults(61)), "rules",
    "rules ", "rules one", "rules ones ones", "rules ones  halves", "rules Halves", "most", "most ", "most 01",
    "most -1", "most 1234567890", "most 1 1", "shrink ", " shrink", "shrink 1", "left ", "asked 0", "needed\n",
    "bars none", "Grows", "grow", "row a", None, 7, True, ["shrink"],
]


def other_rows():
    """Rows that tell a thing, a fault, rules or a number."""
    rows = ["thing " + text for text in THINGS] + ["fault " + text for text in FAULTS]
    rows += ["rules " + " ".join(rules) for rules in lists_of_rules()]
    return rows + [f"most {most}" for most in [0, 1, 2, 3, 4, 5, 6, 8, 10, 13, 20, 10000, 999999999]]


class WholeTest(unittest.TestCase):
    def same(self, desk, model, row):
        """The desk and the model answer alike, or refuse alike."""
        try:
            expected = model.say(row)
        except Refused as refusal:
            error = getattr(errors, refusal.args[0])
            with self.assertRaises(errors.ShrinkError) as caught:
                desk.say(row)
            self.assertIs(type(caught.exception), error)
        else:
            self.assertEqual(desk.say(row), expected)


class SessionTest(WholeTest):
    """Point 27, by many sessions of rows of every kind, one behind the other."""

    def sessions(self, seed, many, rows, kinds):
        chance = Random(seed)
        for session in range(many):
            desk = Desk()
            model = DeskModel(FAULTS)
            said = []
            for turn in range(rows):
                said.append(chance.choice(chance.choice(kinds)))
                with self.subTest(said=said):
                    self.same(desk, model, said[-1])

    def test_rows_of_every_kind(self):
        things = ["thing " + text for text in THINGS]
        faults = ["fault " + text for text in FAULTS]
        self.sessions(1, 250, 25, [things, faults, other_rows(), ASKING, ASKING, ASKING, WRONG])

    def test_where_much_fails(self):
        things = ["thing " + text for text in THINGS[5:]]
        faults = ["fault " + text_of(model) for model in MODELS]
        rules = ["rules " + " ".join(rules) for rules in lists_of_rules()]
        few = [f"most {most}" for most in range(12)]
        for seed, kinds in [
            (2, [things, faults] + [ASKING] * 3), (3, [things, faults, rules] + [ASKING] * 5),
            (4, [things, faults, few] + [ASKING] * 4), (5, [things, faults, rules, few, WRONG] + [ASKING] * 6),
        ]:
            self.sessions(seed, 120, 25, kinds)

    def test_each_thing_and_fault(self):
        for at, thing in enumerate(THINGS):
            for other, model in enumerate(MODELS):
                desk = Desk()
                twin = DeskModel(FAULTS)
                rules = "rules " + " ".join(lists_of_rules()[(at * 13 + other) % 64])
                told = ["thing " + thing, "fault " + text_of(model)]
                for row in told + ASKING + [rules] + ASKING + ["most 4"] + ASKING:
                    with self.subTest(thing=thing, fault=text_of(model), row=row):
                        self.same(desk, twin, row)

    def test_large_things(self):
        row = "row" + " a b c b a" * 8
        forest = Forest([("abcab"[at % 5], [0, 1, 2, 1, 2, 3, 3, 1][at % 8]) for at in range(40)])
        lines = [["abcabbc"[(at * 5 + line) % 7] for at in range(12)] for line in range(12)]
        table = "table " + " / ".join(" ".join(line) for line in lines)
        for thing in [row, text_of_form(forest.form()), table]:
            for model in MODELS[::2]:
                desk = Desk()
                twin = DeskModel(FAULTS)
                for said in ["thing " + thing, "fault " + text_of(model), "shrink", "asked", "bars", "asked", "needed",
                             "asked", "rules marks trees", "shrink", "bars", "asked", "most 30", "shrink", "asked"]:
                    with self.subTest(thing=thing, fault=text_of(model), row=said):
                        self.same(desk, twin, said)


class PromiseTest(WholeTest):
    """Point 3, by what the desk answers alone."""

    def things(self):
        return list(small_rows())[::3] + list(small_forests())[::6] + list(small_tables())[::5]

    def desk(self, thing, model, rules, most=None):
        desk = Desk()
        rows = ["thing " + text_of_form(thing.form()), "fault " + text_of(model), "rules " + " ".join(rules)]
        for row in rows + ([] if most is None else [f"most {most}"]):
            self.assertEqual(desk.say(row), "ok")
        return desk

    def test_what_is_left(self):
        for at, thing in enumerate(self.things()):
            for other, model in enumerate(MODELS):
                for rules in lists_of_rules()[(3 * at + other) % 21::21]:
                    self.promise(thing, model, rules)

    def promise(self, thing, model, rules):
        desk = self.desk(thing, model, rules)
        if not holds_of(model, thing):
            with self.assertRaises(errors.Healthy):
                desk.say("shrink")
            return
        end, blank, text = desk.say("shrink").partition(" ")
        self.assertEqual(end, "small")
        self.assertEqual(desk.say("left"), text)
        self.assertLessEqual(int(desk.say("asked")), bound_of(thing, rules))
        rest = thing_of_form(form_of_text(text))
        if not (rest.form()[0] == "table" and rest.form()[2] == ()):
            self.small(rest, model, rules)
        bars = desk.say("bars")
        self.assertLessEqual(int(desk.say("asked")), 10000)
        if bars != "none":
            self.shown(thing, model, rest, bars)

    def small(self, rest, model, rules):
        self.assertTrue(holds_of(model, rest))
        every = places_of(rest)
        for rule in rules:
            for group in groups_of(rule, rest, every):
                self.assertFalse(holds_of(model, rest.left([place for place in every if place not in group])))
        if grows_of(model) and {"halves", "ones"} & set(rules):
            for some in some_of(every):
                self.assertIs(holds_of(model, rest.left(some)), some == every)

    def shown(self, thing, model, rest, bars):
        many = rest.many()
        lists = [[int(word) for word in bar.split(" ")] for bar in bars.split(" / ")]
        self.assertEqual(len(lists), many)
        for places in some_of(range(thing.many())):
            if holds_of(model, thing.left(places)):
                self.assertGreaterEqual(len(places), many)
                for bar in lists:
                    self.assertTrue(set(bar) & set(places))

    def test_never_more_than_is_allowed(self):
        for at, thing in enumerate(self.things()[::3]):
            for other, model in enumerate(MODELS):
                for most in [0, 1, 2, 3, 5, 8]:
                    desk = self.desk(thing, model, lists_of_rules()[(at + 7 * other) % 64], most)
                    for row in ["needed", "shrink", "bars", "shrink", "needed"]:
                        try:
                            desk.say(row)
                        except (errors.Healthy, errors.Spent):
                            pass
                        self.assertLessEqual(int(desk.say("asked")), most)
                        left = desk.say("left")
                        if left != "none" and form_of_text(left)[0] != "table":
                            self.assertTrue(holds_of(model, thing_of_form(form_of_text(left))))

    def test_texts_there_and_back(self):
        for thing in self.things():
            self.assertEqual(read_thing(show_thing(thing)).form(), thing.form())
            for text, model in FAULTS.items():
                self.assertEqual(read_fault(text).shown(), text)
                self.assertIs(read_fault(text).holds(thing), holds_of(model, thing))


class ManyQuestionsTest(WholeTest):
    """Points 3, 20 and 27: that a new desk allows many questions."""

    def test_more_than_a_thousand(self):
        marks = [letter + "x" for letter in "abcdefghijklmnopqrst"]
        row = Row([mark for pair in zip("abcdefghijklmnopqrst", marks) for mark in pair])
        parts = [("all",) + tuple(("has", mark) for mark in marks[at:at + 4]) for at in range(0, 20, 4)]
        model = ("all",) + tuple(parts)
        desk = Desk()
        twin = DeskModel({text_of(model): model})
        told = ["thing " + text_of_form(row.form()), "fault " + text_of(model)]
        for said in told + ["shrink", "asked", "bars", "asked"]:
            self.same(desk, twin, said)
        for rules in RULES + ["ones halves", "marks trees"]:
            for said in ["rules " + rules, "shrink", "left", "bars", "asked"]:
                self.same(desk, twin, said)
        self.assertEqual(desk.say("left"), "row " + " ".join(marks))
        self.assertGreater(int(desk.say("asked")), 1000)
        self.assertLessEqual(int(desk.say("asked")), 10000)


if __name__ == "__main__":
    unittest.main()

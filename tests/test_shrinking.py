import unittest
from copy import deepcopy

from askmodels import Book, Refused, bound_of, groups_of, places_of, shrunk_of
from faultmodels import JOINTS, LEAVES, grows_of, holds_of, made
from samples import (
    LONG, RULES, lists_of_rules, names, no_rules, small_forests, small_rows, small_tables, some_of, spoil,
)
from shrinkhouse.asking import Asker
from shrinkhouse.errors import Healthy, NoPlace, NoRule, Spent
from shrinkhouse.faults import All, Any, Before, Beside, Has, Many, Not, Under
from shrinkhouse.rules import groups
from shrinkhouse.shrinking import bound, shrunk
from shrinkhouse.things import Forest, Row, Table

ROW = ["a", "b", "a", "b"]
FOREST = [("a", 0), ("b", 1), ("c", 2), ("b", 1), ("a", 0), ("c", 1)]
TABLE = [["a", "b"], ["b", "a"], ["c", "c"]]

# Faults that grow and faults that don't, of which many hold of things of a few a, b and c.
MODELS = [
    ("has", "a"), ("many", 2, "a"), ("many", 2, "b"), ("before", "a", "b"), ("before", "b", "a"), ("under", "a", "b"),
    ("all", ("has", "a"), ("has", "b")),
    ("any", ("many", 2, "a"), ("many", 2, "b"), ("before", "a", "b")),
    ("any", ("under", "a", "b"), ("all", ("has", "b"), ("has", "c"))),
    ("beside", "a", "b"), ("beside", "b", "a"), ("not", ("has", "b")), ("not", ("many", 2, "a")),
    ("all", ("has", "a"), ("any", ("not", ("has", "b")), ("many", 2, "b"))),
    ("any", ("not", ("has", "a")), ("beside", "a", "a"), ("many", 2, "b")),
]


def some_things():
    return list(small_rows())[::4] + list(small_forests())[::9] + list(small_tables())[::8]


class ShrinkingTest(unittest.TestCase):
    def shrinks(self, thing, fault, rules, end, log, most=LONG):
        asker = Asker(thing, fault, most)
        with self.subTest(thing=thing.form(), fault=fault.shown(), rules=rules, most=most):
            self.assertEqual(shrunk(asker, rules), end)
            self.assertEqual(asker.log(), log)

    def refused(self, error, asker, rules):
        before = asker.log()
        with self.subTest(rules=rules), self.assertRaises(error) as caught:
            shrunk(asker, rules)
        self.assertIs(type(caught.exception), error)
        if error is NoRule:
            self.assertEqual(asker.log(), before)


class OneRuleTest(ShrinkingTest):
    """Point 17, by one rule alone, each question in its order."""

    def test_ones(self):
        self.shrinks(
            Row(["a", "b", "c"]), Has("c"), ["ones"], ("small", [2], [("ones", [0]), ("ones", [1])]),
            [([0, 1, 2], True), ([1, 2], True), ([2], True), ([], False)],
        )
        self.shrinks(
            Row(["a", "b", "c"]), Has("a"), ["ones"], ("small", [0], [("ones", [1]), ("ones", [2])]),
            [([0, 1, 2], True), ([1, 2], False), ([0, 2], True), ([2], False), ([0], True), ([], False)],
        )
        self.shrinks(
            Table(TABLE), Under("a", "c"), ["ones"], ("small", [1, 2, 4], [("ones", [0]), ("ones", [3])]),
            [([0, 1, 2, 3, 4], True), ([1, 2, 3, 4], True), ([2, 3, 4], False), ([1, 3, 4], False), ([1, 2, 4], True),
             ([2, 4], False), ([1, 4], False), ([1, 2], False)],
        )

    def test_a_rule_has_its_turn_anew(self):
        # The b can be taken out only when the c is out.
        self.shrinks(
            Row(["b", "c", "a"]), All([Has("a"), Any([Not(Has("c")), Has("b")])]), ["ones"],
            ("small", [2], [("ones", [1]), ("ones", [0])]),
            [([0, 1, 2], True), ([1, 2], False), ([0, 2], True), ([2], True), ([], False)],
        )

    def test_halves(self):
        self.shrinks(
            Row(["a", "b", "c", "d", "e"]), Has("d"), ["halves"],
            ("small", [3], [("halves", [0, 1, 2]), ("halves", [4])]),
            [([0, 1, 2, 3, 4], True), ([], False), ([3, 4], True), ([4], False), ([3], True)],
        )
        self.shrinks(
            Row(["a", "b", "c", "d", "e"]), All([Has("a"), Has("e")]), ["halves"],
            ("small", [0, 4], [("halves", [2, 3]), ("halves", [1])]),
            [([0, 1, 2, 3, 4], True), ([], False), ([3, 4], False), ([0, 1, 2], False), ([2, 3, 4], False),
             ([0, 1, 4], True), ([4], False), ([0, 1], False), ([1, 4], False), ([0, 4], True), ([0], False)],
        )

    def test_trees(self):
        self.shrinks(
            Forest(FOREST), Under("a", "c"), ["trees"], ("small", [4, 5], [("trees", [0, 1, 2, 3])]),
            [([0, 1, 2, 3, 4, 5], True), ([4, 5], True), ([], False), ([4], False)],
        )
        self.shrinks(
            Forest([("a", 0), ("b", 1), ("c", 2)]), Has("c"), ["trees"], ("small", [0, 1, 2], []),
            [([0, 1, 2], True), ([], False), ([0], False), ([0, 1], False)],
        )

    def test_marks(self):
        self.shrinks(
            Row(["a", "b", "a", "c", "b"]), Many(2, "a"), ["marks"],
            ("small", [0, 2], [("marks", [1, 4]), ("marks", [3])]),
            [([0, 1, 2, 3, 4], True), ([1, 3, 4], False), ([0, 2, 3], True), ([3], False), ([0, 2], True),
             ([], False)],
        )
        self.shrinks(
            Table(TABLE), Under("a", "c"), ["marks"], ("small", [0, 1, 2, 3, 4], []),
            [([0, 1, 2, 3, 4], True), ([2, 3, 4], False), ([0, 1, 3, 4], False)],
        )


class SeveralRulesTest(ShrinkingTest):
    """Point 17, by several rules in turn."""

    def test_the_example_of_the_point(self):
        self.shrinks(
            Row(ROW), Has("b"), ["halves", "ones"], ("small", [3], [("halves", [0, 1]), ("halves", [2])]),
            [([0, 1, 2, 3], True), ([], False), ([2, 3], True), ([3], True)],
        )

    def test_two_rules(self):
        self.shrinks(
            Row(["a", "b", "a", "c", "b"]), Before("a", "b"), ["marks", "ones"],
            ("small", [2, 4], [("marks", [3]), ("ones", [0]), ("ones", [1])]),
            [([0, 1, 2, 3, 4], True), ([1, 3, 4], False), ([0, 2, 3], False), ([0, 1, 2, 4], True), ([1, 4], False),
             ([0, 2], False), ([1, 2, 4], True), ([2, 4], True), ([4], False), ([2], False)],
        )
        self.shrinks(
            Table(TABLE), Under("a", "c"), ["marks", "halves"],
            ("small", [0, 2, 3], [("halves", [4]), ("halves", [1])]),
            [([0, 1, 2, 3, 4], True), ([2, 3, 4], False), ([0, 1, 3, 4], False), ([], False), ([3, 4], False),
             ([0, 1, 2], False), ([0, 1, 4], False), ([0, 1, 2, 3], True), ([2, 3], False), ([0, 1], False),
             ([1, 2, 3], False), ([0, 2, 3], True), ([3], False), ([0, 3], False)],
        )
        for rules, end, log in [
            (["trees", "ones"], ("small", [4, 5], [("trees", [0, 1, 2, 3])]),
             [([0, 1, 2, 3, 4, 5], True), ([4, 5], True), ([], False), ([4], False), ([5], False)]),
            (["ones", "trees"], ("small", [4, 5], [("ones", [0]), ("ones", [1]), ("ones", [2]), ("ones", [3])]),
             [([0, 1, 2, 3, 4, 5], True), ([1, 2, 3, 4, 5], True), ([2, 3, 4, 5], True), ([3, 4, 5], True),
              ([4, 5], True), ([5], False), ([4], False), ([], False)]),
        ]:
            self.shrinks(Forest(FOREST), Under("a", "c"), rules, end, log)

    def test_the_same_rule_goes_on_ahead_of_the_first_one(self):
        self.shrinks(
            Row(ROW), Before("a", "b"), ["marks", "ones"], ("small", [2, 3], [("ones", [0]), ("ones", [1])]),
            [([0, 1, 2, 3], True), ([1, 3], False), ([0, 2], False), ([1, 2, 3], True), ([2, 3], True), ([3], False),
             ([2], False)],
        )

    def test_behind_the_last_rule_the_first(self):
        # As long as there is a b, there must be two of it, and two of the c; so only marks can begin.
        fault = All([Has("a"), Has("c"), Any([Many(2, "b"), Not(Has("b"))]), Any([Many(2, "c"), Not(Has("b"))])])
        self.shrinks(
            Row(["b", "b", "c", "c", "a"]), fault, ["ones", "marks"],
            ("small", [3, 4], [("marks", [0, 1]), ("ones", [2])]),
            [([0, 1, 2, 3, 4], True), ([1, 2, 3, 4], False), ([0, 1, 3, 4], False), ([0, 1, 2, 3], False),
             ([2, 3, 4], True), ([4], False), ([2, 3], False), ([3, 4], True), ([3], False)],
        )

    def test_ends_as_soon_as_all_had_their_turn_in_vain(self):
        # Two rules behind one another in vain are not all of three.
        fault = All([Has("a"), Has("c"), Any([Many(2, "b"), Not(Has("b"))]), Any([Many(2, "c"), Not(Has("b"))])])
        self.shrinks(
            Row(["b", "b", "c", "c", "a"]), fault, ["ones", "trees", "marks"],
            ("small", [3, 4], [("marks", [0, 1]), ("ones", [2])]),
            [([0, 1, 2, 3, 4], True), ([1, 2, 3, 4], False), ([0, 1, 3, 4], False), ([0, 1, 2, 3], False),
             ([2, 3, 4], True), ([4], False), ([2, 3], False), ([3, 4], True), ([3], False)],
        )

    def test_healthy(self):
        for thing, fault in [
            (Row(ROW), Has("x")), (Row([]), Has("a")), (Forest(FOREST), Under("c", "a")), (Forest([]), Has("a")),
            (Table(TABLE), Not(Has("c"))), (Table([]), Has("a")), (Table([[], []]), Many(1, "a")),
            (Row(["a", "c", "b"]), Beside("a", "b")),
        ]:
            for rules in lists_of_rules():
                asker = Asker(thing, fault, LONG)
                for turn in range(2):
                    self.refused(Healthy, asker, rules)
                    self.assertEqual(asker.log(), [(places_of(thing), False)])

    def test_a_thing_without_places(self):
        for thing in [Row([]), Forest([]), Table([]), Table(TABLE).left([])]:
            for rules in lists_of_rules():
                self.shrinks(thing, Not(Has("a")), rules, ("small", [], []), [([], True)])
                self.shrinks(thing, Not(Has("a")), rules, ("small", [], []), [([], True)], most=1)

    def test_all_is_taken_out(self):
        for rule, steps, log in [
            ("halves", [("halves", [0, 1])], [([0, 1], True), ([], True)]),
            ("trees", [("trees", [0]), ("trees", [1])], [([0, 1], True), ([1], True), ([], True)]),
            ("ones", [("ones", [0]), ("ones", [1])], [([0, 1], True), ([1], True), ([], True)]),
            ("marks", [("marks", [0]), ("marks", [1])], [([0, 1], True), ([1], True), ([], True)]),
        ]:
            self.shrinks(Row(["a", "b"]), Not(Has("x")), [rule], ("small", [], steps), log)

    def test_columns_without_lines_and_lines_without_marks(self):
        columns = Table([["a", "b"]]).left([1, 2])
        self.shrinks(columns, Not(Has("a")), ["ones"], ("small", [], [("ones", [0]), ("ones", [1])]),
                     [([0, 1], True), ([1], True), ([], True)])
        self.shrinks(columns, Not(Has("a")), ["marks"], ("small", [0, 1], []), [([0, 1], True)])
        self.shrinks(Table([[], []]), Not(Has("a")), ["marks"], ("small", [0, 1], []), [([0, 1], True)])
        self.shrinks(Table([["a"]]), Not(Has("b")), ["marks"], ("small", [1], [("marks", [0])]),
                     [([0, 1], True), ([1], True)])


class EverySmallThingTest(ShrinkingTest):
    """Points 17 to 21, and 3, over many small things, many faults, and every list of rules."""

    def by_the_words(self, thing, model, rules, most):
        book = Book(thing, model, most)
        asker = Asker(thing, made(model), most)
        try:
            expected = shrunk_of(book, rules)
        except Refused as refusal:
            self.refused({"Healthy": Healthy, "Spent": Spent}[refusal.args[0]], asker, rules)
        else:
            self.assertEqual(shrunk(asker, rules), expected)
        self.assertEqual(asker.log(), book.log)
        return asker

    def test_every_list_of_rules(self):
        for at, thing in enumerate(some_things()):
            for other, model in enumerate(MODELS):
                for rules in lists_of_rules()[(at + other) % 7::7]:
                    self.by_the_words(thing, model, rules, LONG)

    def test_other_faults(self):
        for at, thing in enumerate(some_things()[::2]):
            for model in LEAVES[:17] + JOINTS:
                self.by_the_words(thing, model, lists_of_rules()[at % 64], LONG)

    def test_larger_things(self):
        row = Row((["a", "b", "c", "a", "b"] * 8))
        forest = Forest([("abcab"[at % 5], [0, 1, 2, 1, 2, 3, 3, 1][at % 8]) for at in range(40)])
        table = Table([["abcabbc"[(at * 5 + line) % 7] for at in range(12)] for line in range(12)])
        for thing in [row, forest, table]:
            for model in MODELS:
                for rules in [["halves"], ["ones", "marks"], ["trees", "halves", "marks"], list(reversed(RULES))]:
                    asker = self.by_the_words(thing, model, rules, LONG)
                    self.assertLessEqual(asker.asked(), bound(thing, rules))

    def test_spent_at_each_number(self):
        for at, thing in enumerate(some_things()[::3]):
            for other, model in enumerate(MODELS):
                rules = lists_of_rules()[(at * 5 + other * 3) % 64]
                many = self.by_the_words(thing, model, rules, LONG).asked()
                for most in range(many + 2):
                    asker = self.by_the_words(thing, model, rules, most)
                    self.assertEqual(asker.asked(), min(most, many))

    def test_what_is_kept(self):
        for at, thing in enumerate(some_things()):
            for other, model in enumerate(MODELS):
                if holds_of(model, thing):
                    for rules in lists_of_rules()[(at + 2 * other) % 8::8]:
                        self.kept(thing, model, rules)

    def kept(self, thing, model, rules):
        asker = Asker(thing, made(model), LONG)
        end, places, steps = shrunk(asker, rules)
        self.assertEqual(end, "small")
        self.assertTrue(holds_of(model, thing.left(places)))
        self.assertLessEqual(asker.asked(), bound_of(thing, rules))
        forms = [thing.left(asked).form() for asked, fails in asker.log()]
        self.assertEqual(len(forms), len(set(forms)))
        for rule in rules:
            for group in groups_of(rule, thing, places):
                rest = [place for place in places if place not in group]
                self.assertFalse(holds_of(model, thing.left(rest)))
        if grows_of(model) and ("halves" in rules or "ones" in rules):
            for some in some_of(places):
                self.assertIs(holds_of(model, thing.left(some)), some == places)
        self.steps(thing, model, places, steps)

    def steps(self, thing, model, places, steps):
        """The steps, one after another, lead from all places to those kept, by what fails alone."""
        rest = places_of(thing)
        for rule, group in steps:
            self.assertIn(group, groups(rule, thing, rest))
            rest = [place for place in rest if place not in group]
            self.assertTrue(holds_of(model, thing.left(rest)))
        self.assertEqual(rest, places)


class SpentTest(ShrinkingTest):
    """Point 18."""

    LOG = [([0, 1, 2, 3], True), ([], False), ([2, 3], True), ([3], True)]

    def test_at_each_number(self):
        for most, end in [
            (1, ("spent", [0, 1, 2, 3], [])),
            (2, ("spent", [0, 1, 2, 3], [])),
            (3, ("spent", [2, 3], [("halves", [0, 1])])),
            (4, ("small", [3], [("halves", [0, 1]), ("halves", [2])])),
            (5, ("small", [3], [("halves", [0, 1]), ("halves", [2])])),
        ]:
            self.shrinks(Row(ROW), Has("b"), ["halves", "ones"], end, self.LOG[:most], most)

    def test_nothing_may_be_asked(self):
        for thing in [Row(ROW), Row([]), Forest(FOREST), Table(TABLE), Table([])]:
            for fault in [Has("a"), Has("x"), Not(Has("x"))]:
                for rules in lists_of_rules()[::5]:
                    asker = Asker(thing, fault, 0)
                    for turn in range(2):
                        self.refused(Spent, asker, rules)
                    self.assertEqual(asker.log(), [])

    def test_all_questions_went_ahead(self):
        asker = Asker(Row(ROW), Has("b"), 2)
        asker.fails([0])
        asker.fails([1])
        for turn in range(2):
            self.refused(Spent, asker, ["ones"])
        self.assertEqual(asker.log(), [([0], False), ([1], True)])

    def test_all_places_were_asked_of_already(self):
        asker = Asker(Row(ROW), Has("b"), 1)
        asker.fails([0, 1, 2, 3])
        for rules in lists_of_rules():
            self.assertEqual(shrunk(asker, rules), ("spent", [0, 1, 2, 3], []))
        asker = Asker(Row(ROW), Has("x"), 1)
        asker.fails([0, 1, 2, 3])
        for rules in lists_of_rules():
            self.refused(Healthy, asker, rules)
        self.assertEqual(asker.log(), [([0, 1, 2, 3], False)])

    def test_what_was_asked_ahead_is_remembered(self):
        asker = Asker(Row(ROW), Has("b"), 4)
        asker.fails([2, 3])
        asker.fails([])
        self.assertEqual(shrunk(asker, ["halves", "ones"]), ("small", [3], [("halves", [0, 1]), ("halves", [2])]))
        self.assertEqual(asker.log(), [([2, 3], True), ([], False), ([0, 1, 2, 3], True), ([3], True)])

    def test_what_leaves_the_same_thing_is_remembered(self):
        asker = Asker(Row(ROW), Has("b"), 4)
        for places in [[0, 1], [1], []]:
            asker.fails(places)
        self.assertEqual(shrunk(asker, ["halves"]), ("small", [3], [("halves", [0, 1]), ("halves", [2])]))
        self.assertEqual(asker.log(), [([0, 1], True), ([1], True), ([], False), ([0, 1, 2, 3], True)])

    def test_twice_by_one_asker(self):
        for most in [1, 2, 3, 5, 8, LONG]:
            for thing in [Row(ROW), Forest(FOREST), Table(TABLE)]:
                for fault in [Has("b"), Before("a", "b"), Not(Has("x")), Many(2, "b")]:
                    for rules in lists_of_rules()[::3]:
                        asker = Asker(thing, fault, most)
                        first = shrunk(asker, rules)
                        log = asker.log()
                        self.assertEqual(shrunk(asker, rules), first)
                        self.assertEqual(asker.log(), log)
                        self.assertLessEqual(asker.asked(), most)


class NoRuleTest(ShrinkingTest):
    """Point 18: which lists of rules are refused, and that this is ahead of all else."""

    def askers(self):
        spent = Asker(Row(ROW), Has("b"), 1)
        spent.fails([0])
        return [
            Asker(Row(ROW), Has("b"), LONG), Asker(Row(ROW), Has("x"), LONG), Asker(Forest(FOREST), Has("a"), 0), spent,
            Asker(Table(TABLE), Has("c"), LONG), Asker(Row([]), Has("a"), LONG), Asker(Row([]), Not(Has("a")), 0),
        ]

    def test_an_empty_list(self):
        for asker in self.askers():
            self.refused(NoRule, asker, [])

    def test_what_is_no_rule(self):
        for rule in no_rules():
            for asker in self.askers():
                self.refused(NoRule, asker, [rule])
            asker = Asker(Row(ROW), Has("b"), LONG)
            for rules in [["halves", rule], [rule, "ones"], ["halves", "trees", "ones", "marks", rule],
                          ["halves", rule, "marks"], [rule, rule]]:
                self.refused(NoRule, asker, rules)

    def test_a_rule_twice(self):
        for asker in self.askers():
            for rule in RULES:
                for other in RULES:
                    self.refused(NoRule, asker, [rule, rule])
                    self.refused(NoRule, asker, [rule, other, rule])
                    self.refused(NoRule, asker, [other, rule, rule])
                    self.refused(NoRule, asker, [rule, rule, other])
                self.refused(NoRule, asker, RULES + [rule])

    def test_each_good_list(self):
        for rules in lists_of_rules():
            self.assertEqual(shrunk(Asker(Row(["a"]), Has("a"), LONG), rules), ("small", [0], []))

    def test_good_behind_a_refusal(self):
        asker = Asker(Row(ROW), Has("b"), 4)
        for rules in [[], ["half"], ["ones", "ones"], [None]]:
            self.refused(NoRule, asker, rules)
        self.assertEqual(shrunk(asker, ["halves", "ones"])[:2], ("small", [3]))
        for rules in [[], ["half"], ["ones", "ones"], [None]]:
            self.refused(NoRule, asker, rules)
        self.assertEqual(shrunk(asker, ["halves", "ones"])[:2], ("small", [3]))
        with self.assertRaises(NoPlace):
            asker.fails([4])
        self.assertEqual(asker.log(), SpentTest.LOG)


class ToldTest(ShrinkingTest):
    """Points 19 and 2: the kinds of what is told, and whose the lists are."""

    def ends(self):
        for most in [1, 3, LONG]:
            for thing in [Row(ROW), Forest(FOREST), Table(TABLE)]:
                for fault in [Has("b"), Not(Has("x")), Many(2, "b")]:
                    for rules in [["halves", "ones"], ["trees"], ["marks", "trees"], list(RULES)]:
                        yield Asker(thing, fault, most), rules

    def test_kinds(self):
        for asker, rules in self.ends():
            told = shrunk(asker, rules)
            self.assertIs(type(told), tuple)
            end, places, steps = told
            self.assertIn(end, ("small", "spent"))
            self.assertIs(type(places), list)
            self.assertIs(type(steps), list)
            for place in places:
                self.assertIs(type(place), int)
            for step in steps:
                self.assertIs(type(step), tuple)
                self.assertIs(type(step[0]), str)
                self.assertIn(step[0], rules)
                self.assertIs(type(step[1]), list)

    def test_changing_what_was_told_changes_nothing(self):
        for asker, rules in self.ends():
            handed_in = list(rules)
            first = shrunk(asker, handed_in)
            before = deepcopy(first)
            log = asker.log()
            form = asker.thing().form()
            second = shrunk(asker, handed_in)
            spoil(second)
            self.assertEqual(first, before)
            self.assertEqual(asker.log(), log)
            self.assertEqual(asker.thing().form(), form)
            self.assertEqual(handed_in, rules)
            self.assertEqual(shrunk(asker, handed_in), before)
            for place in before[1]:
                self.assertEqual(groups("ones", asker.thing(), [place]), [[place]])

    def test_the_lists_told_are_apart(self):
        for asker, rules in self.ends():
            told = shrunk(asker, rules)
            before = deepcopy(told)
            told[1].append(77)
            self.assertEqual(told[2], before[2])
            for at, step in enumerate(told[2]):
                step[1].append(77)
                self.assertEqual(told[2][at + 1:], before[2][at + 1:])
            self.assertEqual(told[1], before[1] + [77])

    def test_what_was_told_stays_when_more_is_asked(self):
        asker = Asker(Row(ROW), Many(2, "b"), LONG)
        told = shrunk(asker, ["ones"])
        before = deepcopy(told)
        shrunk(asker, ["halves", "marks"])
        for places in some_of(range(4)):
            asker.fails(places)
        self.assertEqual(told, before)

    def test_the_rules_are_as_they_were(self):
        for asker, rules in self.ends():
            before = list(rules)
            told = shrunk(asker, rules)
            self.assertEqual(rules, before)
            was = deepcopy(told)
            rules.reverse()
            rules.append("spoilt")
            self.assertEqual(told, was)
        for wrong in [[], ["ones", "halves", "ones"], [["ones"], "half"], ["trees", None]]:
            before = deepcopy(wrong)
            self.refused(NoRule, Asker(Row(ROW), Has("b"), LONG), wrong)
            self.assertEqual(wrong, before)


class BoundTest(unittest.TestCase):
    """Point 20."""

    def test_numbers(self):
        for thing, rules, expected in [
            (Row([]), ["ones"], 1), (Row([]), list(RULES), 1),
            (Row(["a"]), ["ones"], 9), (Row(["a"]), ["halves", "marks"], 17),
            (Row(ROW), ["halves"], 81), (Row(ROW), ["halves", "ones"], 161),
            (Row(ROW), ["trees", "marks", "ones"], 241), (Row(ROW), list(RULES), 321),
            (Row(["a"] * 40), list(RULES), 26241),
            (Forest([]), ["ones"], 1), (Forest([("a", 0), ("b", 1)]), ["trees", "ones"], 49),
            (Table([]), ["ones"], 1), (Table([["a", "b", "c"], ["a", "b", "c"]]), ["ones"], 127),
            (Table([["a", "b", "c"], ["a", "b", "c"]]), ["marks", "ones", "trees"], 379),
            (Table([[], [], []]), ["halves", "ones"], 73), (Table([["a", "b", "c"]]).left([1, 2, 3]), ["halves"], 37),
            (Table([["a"] * 12] * 12), list(RULES), 21601),
        ]:
            with self.subTest(thing=thing.form(), rules=rules):
                self.assertIs(type(bound(thing, rules)), int)
                self.assertEqual(bound(thing, rules), expected)

    def test_of_small_things(self):
        for thing in list(small_rows()) + list(small_forests()) + list(small_tables()):
            for rules in lists_of_rules()[::6]:
                before = list(rules)
                self.assertEqual(bound(thing, rules), bound_of(thing, rules))
                self.assertEqual(rules, before)

    def test_of_unlike_marks(self):
        row = Row(names(40))
        for rules in [["ones"], ["marks"], ["halves"], list(RULES)]:
            asker = Asker(row, All([Has(row.spots()[0]), Has(row.spots()[39])]), bound(row, rules))
            self.assertEqual(shrunk(asker, rules)[:2], ("small", [0, 39]))


if __name__ == "__main__":
    unittest.main()

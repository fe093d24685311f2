import unittest
from copy import deepcopy

from askmodels import groups_of
from samples import LETTERS, RULES, names, no_places_of_three, no_rules, small_things, some_of, things_of_three
from shrinkhouse.errors import NoPlace, NoRule
from shrinkhouse.rules import groups
from shrinkhouse.things import Forest, Row, Table

FOREST = Forest([("a", 0), ("b", 1), ("a", 2), ("c", 2), ("b", 1), ("a", 0), ("c", 1)])
TABLE = Table([["a", "b", "c"], ["c", "a", "a"], ["b", "b", "x"]])


class RulesTest(unittest.TestCase):
    def told(self, rule, thing, places, expected):
        with self.subTest(rule=rule, thing=thing.form(), places=places):
            found = groups(rule, thing, places)
            self.assertIs(type(found), list)
            for group in found:
                self.assertIs(type(group), list)
            self.assertEqual(found, expected)

    def told_of_all(self, rule, thing, expected):
        self.told(rule, thing, list(range(thing.many())), expected)

    def test_no_places(self):
        for thing in [Row([]), Row(["a", "b"]), Forest([]), FOREST, Table([]), Table([[]]), TABLE, TABLE.left([3, 4])]:
            for rule in RULES:
                self.told(rule, thing, [], [])

    def test_good_behind_a_refusal(self):
        row = Row(["a", "b"])
        with self.assertRaises(NoRule):
            groups("half", row, [0, 1])
        with self.assertRaises(NoPlace):
            groups("halves", row, [1, 0])
        self.told("halves", row, [0, 1], [[0, 1], [0], [1]])
        self.told("marks", row, [0, 1], [[0], [1]])


class HalvesTest(RulesTest):
    """Point 13: halves."""

    def test_of_one_to_nine(self):
        row = Row(names(9))
        for many, expected in [
            (1, [[0]]),
            (2, [[0, 1], [0], [1]]),
            (3, [[0, 1, 2], [0, 1], [2], [0], [1], [2]]),
            (4, [[0, 1, 2, 3], [0, 1], [2, 3], [0], [1], [2], [3]]),
            (5, [[0, 1, 2, 3, 4], [0, 1, 2], [3, 4], [0, 1], [2, 3], [4], [0], [1], [2], [3], [4]]),
            (6, [[0, 1, 2, 3, 4, 5], [0, 1, 2], [3, 4, 5], [0, 1], [2, 3], [4, 5], [0], [1], [2], [3], [4], [5]]),
            (7, [[0, 1, 2, 3, 4, 5, 6], [0, 1, 2, 3], [4, 5, 6], [0, 1], [2, 3], [4, 5], [6],
                 [0], [1], [2], [3], [4], [5], [6]]),
            (9, [[0, 1, 2, 3, 4, 5, 6, 7, 8], [0, 1, 2, 3, 4], [5, 6, 7, 8], [0, 1, 2], [3, 4, 5], [6, 7, 8],
                 [0, 1], [2, 3], [4, 5], [6, 7], [8], [0], [1], [2], [3], [4], [5], [6], [7], [8]]),
        ]:
            self.told("halves", row, list(range(many)), expected)

    def test_of_some(self):
        for thing in [Row(names(9)), Forest([(mark, at % 3) for at, mark in enumerate(names(9))]), TABLE]:
            last = thing.many() - 1
            self.told("halves", thing, [3], [[3]])
            self.told("halves", thing, [last], [[last]])
            self.told("halves", thing, [1, 2, 5], [[1, 2, 5], [1, 2], [5], [1], [2], [5]])
            self.told("halves", thing, [0, 2, 3, last],
                      [[0, 2, 3, last], [0, 2], [3, last], [0], [2], [3], [last]])

    def test_lines_and_columns_of_a_table(self):
        self.told_of_all("halves", Table([["a", "b"]]), [[0, 1, 2], [0, 1], [2], [0], [1], [2]])
        self.told_of_all("halves", Table([[], []]), [[0, 1], [0], [1]])
        self.told_of_all("halves", Table([["a", "b"]]).left([1, 2]), [[0, 1], [0], [1]])

    def test_of_each_number(self):
        row = Row(["a"] * 40)
        for many in range(1, 41):
            places = list(range(40 - many, 40))
            expected = []
            size = many
            while True:
                rest = list(places)
                while rest:
                    expected.append(rest[:size])
                    rest = rest[size:]
                if size == 1:
                    break
                size = size // 2 + size % 2
            self.told("halves", row, places, expected)


class TreesTest(RulesTest):
    """Point 13: trees."""

    def test_row_and_table(self):
        self.told_of_all("trees", Row(["a", "a", "b"]), [[0], [1], [2]])
        self.told("trees", Row(["a", "a", "b"]), [0, 2], [[0], [2]])
        self.told_of_all("trees", Table([["a", "b"], ["c", "a"]]), [[0], [1], [2], [3]])
        self.told("trees", TABLE, [1, 2, 4], [[1], [2], [4]])
        self.told("trees", TABLE.left([3, 4]), [0, 1], [[0], [1]])

    def test_forest(self):
        self.told_of_all("trees", FOREST, [[0, 1, 2, 3, 4], [1, 2, 3], [2], [3], [4], [5, 6], [6]])
        self.told("trees", FOREST, [1], [[1]])
        self.told("trees", FOREST, [5, 6], [[5, 6], [6]])

    def test_forest_without_one_between(self):
        self.told("trees", FOREST, [0, 2, 3, 6], [[0, 2, 3], [2], [3], [6]])
        self.told("trees", FOREST, [0, 3, 4, 5], [[0, 3, 4], [3], [4], [5]])
        self.told("trees", FOREST, [1, 3, 4], [[1, 3], [3], [4]])
        deep = Forest([(mark, at) for at, mark in enumerate(names(13))])
        self.told("trees", deep, [0, 5, 12], [[0, 5, 12], [5, 12], [12]])

    def test_forest_without_the_top(self):
        self.told("trees", FOREST, [1, 2, 4, 6], [[1, 2], [2], [4], [6]])


class OnesTest(RulesTest):
    """Point 13: ones."""

    def test_each_kind(self):
        self.told_of_all("ones", Row(["a", "a", "b"]), [[0], [1], [2]])
        self.told_of_all("ones", FOREST, [[0], [1], [2], [3], [4], [5], [6]])
        self.told_of_all("ones", TABLE, [[0], [1], [2], [3], [4], [5]])
        for thing in [Row(["a"] * 6), FOREST, TABLE]:
            self.told("ones", thing, [4], [[4]])
            self.told("ones", thing, [0, 2, 3, 5], [[0], [2], [3], [5]])


class MarksTest(RulesTest):
    """Point 13: marks."""

    def test_row(self):
        row = Row(["b", "a", "b", "c", "a"])
        self.told_of_all("marks", row, [[0, 2], [1, 4], [3]])
        self.told("marks", row, [1, 2, 4], [[1, 4], [2]])
        self.told("marks", row, [4], [[4]])
        self.told("marks", row, [3, 4], [[3], [4]])
        self.told("marks", row, [2, 3], [[2], [3]])
        self.told_of_all("marks", Row(["a"] * 5), [[0, 1, 2, 3, 4]])

    def test_forest(self):
        self.told_of_all("marks", FOREST, [[0, 2, 5], [1, 4], [3, 6]])
        self.told("marks", FOREST, [1, 3, 5, 6], [[1], [3, 6], [5]])
        self.told("marks", FOREST, [6], [[6]])

    def test_table_lines_alone(self):
        self.told_of_all("marks", TABLE, [[0, 1], [0, 2], [0, 1], [2]])
        self.told_of_all("marks", Table([["a", "a"], ["a", "a"]]), [[0, 1]])

    def test_table_without_some_lines(self):
        self.told("marks", TABLE, [1, 2, 3, 4, 5], [[1], [1], [2], [2]])
        self.told("marks", TABLE, [2, 3, 4, 5], [[2], [2]])
        self.told("marks", TABLE, [0, 2, 3, 4, 5], [[0], [0, 2], [0], [2]])

    def test_table_without_some_columns(self):
        self.told("marks", TABLE, [0, 1, 2, 4], [[0, 2], [1]])
        self.told("marks", TABLE, [0, 1, 2, 5], [[0], [1], [2]])
        self.told("marks", TABLE, [1, 2, 3, 5], [[1], [1], [2], [2]])
        self.told("marks", TABLE, [0, 2, 4, 5], [[0, 2], [0], [2]])

    def test_table_without_lines_or_columns(self):
        self.told("marks", TABLE, [0, 1, 2], [])
        self.told("marks", TABLE, [3, 4, 5], [])
        self.told("marks", TABLE.left([3, 4, 5]), [0, 1, 2], [])
        self.told("marks", TABLE.left([0, 1]), [0, 1], [])


class EverySmallThingTest(RulesTest):
    """Point 13, of every list of places of many small things, by its words."""

    def test_each_rule(self):
        for thing in small_things():
            for places in some_of(range(thing.many())):
                for rule in RULES:
                    self.told(rule, thing, places, groups_of(rule, thing, places))

    def test_some_of_the_places_rising(self):
        for thing in small_things():
            for places in some_of(range(thing.many())):
                for rule in RULES:
                    for group in groups(rule, thing, places):
                        self.assertEqual(group, [place for place in places if place in group])
                        self.assertTrue(group)


class NoRuleTest(RulesTest):
    """Point 13: what is no rule."""

    def refused(self, rule, thing, places):
        with self.subTest(rule=rule, places=places), self.assertRaises(NoRule) as caught:
            groups(rule, thing, places)
        self.assertIs(type(caught.exception), NoRule)

    def test_no_rule(self):
        for rule in no_rules():
            for thing in [Row(["a", "b"]), Forest([("a", 0), ("b", 1)]), Table([["a"]])]:
                self.refused(rule, thing, [0, 1])
            self.refused(rule, Row([]), [])

    def test_ahead_of_no_places(self):
        for rule in ["", "half", "Ones", "marks ", None, 0, True, [], ("ones",)]:
            for thing in things_of_three():
                for places in no_places_of_three():
                    self.refused(rule, thing, places)

    def test_each_letter(self):
        for rule in RULES:
            for at in range(len(rule)):
                for letter in LETTERS:
                    changed = rule[:at] + letter + rule[at + 1:]
                    if changed != rule:
                        self.refused(changed, Row(["a"]), [0])


class NoPlaceTest(RulesTest):
    """Points 13 and 6: what is no list of places."""

    def refused(self, rule, thing, places):
        with self.subTest(rule=rule, thing=thing.form(), places=places), self.assertRaises(NoPlace) as caught:
            groups(rule, thing, places)
        self.assertIs(type(caught.exception), NoPlace)

    def test_by_each_rule(self):
        for thing in things_of_three():
            for places in no_places_of_three():
                for rule in RULES:
                    self.refused(rule, thing, places)

    def test_of_a_thing_without_places(self):
        for thing in [Row([]), Forest([]), Table([]), TABLE.left([])]:
            for places in [[0], [1], [-1], [True], [None], [[]], None, (), 0, "", True]:
                for rule in RULES:
                    self.refused(rule, thing, places)


class KeptTest(RulesTest):
    """Point 2."""

    def test_the_places_are_as_they_were(self):
        for thing in [Row(["a", "b", "a", "c"]), FOREST, TABLE]:
            before = thing.form()
            for rule in RULES:
                for places in some_of(range(4)):
                    was = list(places)
                    groups(rule, thing, places)
                    self.assertEqual(places, was)
                for places in [[2, 1], [0, 0], [0, [1]], [99]]:
                    was = deepcopy(places)
                    with self.assertRaises(NoPlace):
                        groups(rule, thing, places)
                    self.assertEqual(places, was)
            self.assertEqual(thing.form(), before)

    def test_changing_the_places_changes_nothing_told(self):
        for thing in [Row(["a", "b", "a", "c"]), FOREST, TABLE]:
            for rule in RULES:
                for many in range(1, 5):
                    places = list(range(many))
                    found = groups(rule, thing, places)
                    before = deepcopy(found)
                    places.reverse()
                    places.append(77)
                    self.assertEqual(found, before)

    def test_changing_what_was_told_changes_nothing_else(self):
        for thing in [Row(["a", "b", "a", "c"]), FOREST, TABLE]:
            for rule in RULES:
                for many in range(1, 5):
                    places = list(range(many))
                    before = deepcopy(groups(rule, thing, places))
                    found = groups(rule, thing, places)
                    for at, group in enumerate(found):
                        group.append(77)
                        # Each group is a list of its own, also where one is told several times.
                        self.assertEqual(found[at + 1:], before[at + 1:])
                        self.assertEqual(places, list(range(many)))
                    found.clear()
                    self.assertEqual(groups(rule, thing, places), before)


if __name__ == "__main__":
    unittest.main()

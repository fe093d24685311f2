import unittest

from samples import hung_under, names, small_forests, small_rows, small_tables, small_things
from shrinkhouse.things import Forest, Row, Table

PAIRS = [(one, other) for one in "abcx" for other in "abcx"]


def cells(table):
    """The spots of a table as (mark, line, column), as they are read."""
    lines = table.form()[2]
    return [(mark, line, column) for line, marks in enumerate(lines) for column, mark in enumerate(marks)]


class TellingTest(unittest.TestCase):
    def truth(self, told, expected):
        self.assertIs(told, expected)

    def pairs(self, told, yes):
        """Just these pairs of marks, written as two letters each, are told True."""
        for one, other in PAIRS:
            with self.subTest(one=one, other=other):
                self.truth(told(one, other), one + other in yes)


class ManyTest(TellingTest):
    """Point 8: how many spots have a mark, and where it stands."""

    def test_row(self):
        row = Row(["a", "b", "a"])
        self.assertEqual([row.many_of(mark) for mark in "abx"], [2, 1, 0])
        self.assertEqual([row.standing(mark) for mark in "abx"], [[0, 2], [1], []])

    def test_forest(self):
        forest = Forest([("b", 0), ("a", 1), ("a", 2), ("c", 0), ("a", 0)])
        self.assertEqual([forest.many_of(mark) for mark in "abcx"], [3, 1, 1, 0])
        self.assertEqual([forest.standing(mark) for mark in "abcx"], [[1, 2, 4], [0], [3], []])

    def test_table(self):
        table = Table([["a", "a"], ["b", "c"], ["b", "a"]])
        self.assertEqual([table.many_of(mark) for mark in "abcx"], [3, 2, 1, 0])
        self.assertEqual([table.standing(mark) for mark in "abcx"], [[0, 2], [1, 2], [1], []])

    def test_whole_marks(self):
        for thing in [Row(["ab", "abc"]), Forest([("ab", 0), ("abc", 0)]), Table([["ab", "abc"]])]:
            self.assertEqual([thing.many_of(mark) for mark in ["a", "b", "ab", "abc", "bc"]], [0, 0, 1, 1, 0])
            self.assertEqual([thing.standing(mark) for mark in ["a", "b", "bc"]], [[], [], []])
            self.truth(thing.is_before("ab", "abc"), True)
            self.truth(thing.is_before("a", "b"), False)
            self.truth(thing.is_beside("a", "abc"), False)

    def test_many(self):
        for thing in [Row(["a"] * 40), Forest([("a", at % 13) for at in range(40)])]:
            self.assertEqual(thing.many_of("a"), 40)
            self.assertEqual(thing.standing("a"), list(range(40)))
        table = Table([["a"] * 12 for at in range(12)])
        self.assertEqual(table.many_of("a"), 144)
        self.assertEqual(table.standing("a"), list(range(12)))

    def test_nothing_there(self):
        for thing in [Row([]), Forest([]), Table([]), Table([[], []]), Table([["a", "b"]]).left([1, 2])]:
            self.assertEqual(thing.many_of("a"), 0)
            self.assertEqual(thing.standing("a"), [])
            for told in [thing.is_before, thing.is_under, thing.is_beside]:
                self.pairs(told, [])

    def test_every_small_thing(self):
        for thing in small_things():
            for mark in "abcx":
                found = [at for at, spot in enumerate(thing.spots()) if spot == mark]
                self.assertIs(type(thing.many_of(mark)), int)
                self.assertEqual(thing.many_of(mark), len(found))
                if not isinstance(thing, Table):
                    self.assertEqual(thing.standing(mark), found)

    def test_every_small_table(self):
        for table in small_tables():
            for mark in "abx":
                lines = sorted({line for spot, line, column in cells(table) if spot == mark})
                self.assertEqual(table.standing(mark), lines)


class BeforeTest(TellingTest):
    """Point 8: read ahead."""

    def test_each_kind(self):
        self.pairs(Row(["a", "b"]).is_before, ["ab"])
        self.pairs(Row(["a", "b", "a"]).is_before, ["ab", "ba", "aa"])
        self.pairs(Row(["b", "c", "a"]).is_before, ["bc", "ba", "ca"])
        self.pairs(Forest([("a", 0), ("b", 1), ("c", 0)]).is_before, ["ab", "ac", "bc"])
        self.pairs(Forest([("a", 0), ("a", 1)]).is_before, ["aa"])
        self.pairs(Table([["a", "b"], ["c", "a"]]).is_before, ["ab", "ac", "aa", "bc", "ba", "ca"])
        self.pairs(Table([["b"], ["a"]]).is_before, ["ba"])

    def test_one_mark_with_itself(self):
        for once, twice in [
            (Row(["a", "b"]), Row(["a", "b", "a"])),
            (Forest([("a", 0), ("b", 1)]), Forest([("a", 0), ("b", 1), ("a", 0)])),
            (Table([["a", "b"]]), Table([["b", "a"], ["a", "b"]])),
        ]:
            self.truth(once.is_before("a", "a"), False)
            self.truth(twice.is_before("a", "a"), True)

    def test_every_small_thing(self):
        for thing in small_things():
            spots = thing.spots()
            ahead = {spots[at] + spots[later] for later in range(len(spots)) for at in range(later)}
            self.pairs(thing.is_before, ahead)


class UnderTest(TellingTest):
    """Point 8: under."""

    def test_row_never(self):
        for row in small_rows():
            self.pairs(row.is_under, [])
        self.pairs(Row(["a", "b", "c", "a", "b", "c"]).is_under, [])

    def test_forest(self):
        self.pairs(Forest([("a", 0), ("b", 1), ("c", 2)]).is_under, ["ab", "ac", "bc"])
        self.pairs(Forest([("a", 0), ("b", 1), ("c", 1)]).is_under, ["ab", "ac"])
        self.pairs(Forest([("a", 0), ("b", 0), ("c", 1)]).is_under, ["bc"])
        self.pairs(Forest([("a", 0), ("b", 1), ("c", 0), ("a", 1)]).is_under, ["ab", "ca"])

    def test_forest_one_mark_with_itself(self):
        self.pairs(Forest([("a", 0)]).is_under, [])
        self.pairs(Forest([("a", 0), ("a", 0)]).is_under, [])
        self.pairs(Forest([("a", 0), ("a", 1)]).is_under, ["aa"])
        self.pairs(Forest([("a", 0), ("b", 1), ("a", 2)]).is_under, ["ab", "ba", "aa"])

    def test_every_small_forest(self):
        for forest in small_forests():
            nodes = forest.form()[1]
            yes = {nodes[up][0] + nodes[at][0] for at in range(len(nodes)) for up in hung_under(nodes, at)}
            self.pairs(forest.is_under, yes)

    def test_table(self):
        self.pairs(Table([["a", "b"], ["c", "x"]]).is_under, ["ac", "bx"])
        self.pairs(Table([["a"], ["b"], ["c"]]).is_under, ["ab", "ac", "bc"])
        self.pairs(Table([["a", "b", "c"]]).is_under, [])
        self.pairs(Table([["a", "b"], ["b", "a"]]).is_under, ["ab", "ba"])

    def test_table_one_mark_with_itself(self):
        self.pairs(Table([["a"]]).is_under, [])
        self.pairs(Table([["a", "a"]]).is_under, [])
        self.pairs(Table([["a"], ["a"]]).is_under, ["aa"])
        self.pairs(Table([["a", "b"], ["b", "a"]]).is_under, ["ab", "ba"])

    def test_every_small_table(self):
        for table in small_tables():
            spots = cells(table)
            yes = {high[0] + low[0] for high in spots for low in spots if high[2] == low[2] and high[1] < low[1]}
            self.pairs(table.is_under, yes)


class BesideTest(TellingTest):
    """Point 8: beside."""

    def test_row(self):
        self.pairs(Row(["a", "b", "c"]).is_beside, ["ab", "bc"])
        self.pairs(Row(["a"]).is_beside, [])
        self.pairs(Row(["a", "b", "a"]).is_beside, ["ab", "ba"])
        self.pairs(Row(["b", "a", "a"]).is_beside, ["ba", "aa"])

    def test_forest(self):
        self.pairs(Forest([("a", 0), ("b", 0), ("c", 0)]).is_beside, ["ab", "bc"])
        self.pairs(Forest([("a", 0), ("b", 1), ("c", 0)]).is_beside, ["ac"])
        self.pairs(Forest([("a", 0), ("b", 1), ("c", 1)]).is_beside, ["bc"])
        self.pairs(Forest([("x", 0), ("a", 1), ("b", 2), ("x", 2), ("c", 1)]).is_beside, ["ac", "bx"])
        self.pairs(Forest([("a", 0), ("b", 1), ("x", 0), ("c", 1)]).is_beside, ["ax"])
        self.pairs(Forest([("a", 0), ("b", 1), ("c", 2)]).is_beside, [])
        self.pairs(Forest([("a", 0), ("b", 1), ("c", 2), ("x", 1)]).is_beside, ["bx"])

    def test_forest_one_mark_with_itself(self):
        self.pairs(Forest([("a", 0)]).is_beside, [])
        self.pairs(Forest([("a", 0), ("a", 1)]).is_beside, [])
        self.pairs(Forest([("a", 0), ("a", 0)]).is_beside, ["aa"])
        self.pairs(Forest([("a", 0), ("b", 0), ("a", 0)]).is_beside, ["ab", "ba"])

    def test_forest_in_which_a_later_one_has_it(self):
        self.pairs(Forest([("a", 0), ("a", 1), ("b", 1)]).is_beside, ["ab"])

    def test_every_small_forest(self):
        for forest in small_forests():
            nodes = forest.form()[1]
            yes = set()
            for at in range(len(nodes)):
                above = hung_under(nodes, at)
                same = [later for later in range(at + 1, len(nodes)) if hung_under(nodes, later) == above]
                if same:
                    yes.add(nodes[at][0] + nodes[same[0]][0])
            self.pairs(forest.is_beside, yes)

    def test_table(self):
        self.pairs(Table([["a", "b"], ["c", "x"]]).is_beside, ["ab", "cx"])
        self.pairs(Table([["a"], ["b"]]).is_beside, [])
        self.pairs(Table([["a", "b", "c"]]).is_beside, ["ab", "bc"])
        self.pairs(Table([["a", "b"], ["b", "c"]]).is_beside, ["ab", "bc"])

    def test_table_one_mark_with_itself(self):
        self.pairs(Table([["a"]]).is_beside, [])
        self.pairs(Table([["a"], ["a"]]).is_beside, [])
        self.pairs(Table([["a", "a"]]).is_beside, ["aa"])
        self.pairs(Table([["a", "b", "a"]]).is_beside, ["ab", "ba"])

    def test_every_small_row_and_table(self):
        for row in small_rows():
            spots = row.spots()
            self.pairs(row.is_beside, {spots[at] + spots[at + 1] for at in range(len(spots) - 1)})
        for table in small_tables():
            spots = cells(table)
            yes = {one[0] + other[0] for one in spots for other in spots if (one[1], one[2] + 1) == other[1:]}
            self.pairs(table.is_beside, yes)


class HangingTest(unittest.TestCase):
    """Point 9."""

    def test_row_and_table_alone(self):
        for thing in [Row(["a"] * 40), Table([["a", "b"], ["c", "d"]]), Table([["a", "b"]]).left([1, 2]), Table([[]])]:
            for place in range(thing.many()):
                self.assertEqual(thing.hanging(place), [place])

    def test_forest(self):
        forest = Forest([("a", 0), ("b", 1), ("c", 2), ("d", 2), ("e", 1), ("f", 0), ("g", 1)])
        self.assertEqual(
            [forest.hanging(place) for place in range(7)],
            [[0, 1, 2, 3, 4], [1, 2, 3], [2], [3], [4], [5, 6], [6]],
        )

    def test_deep_forest(self):
        forest = Forest([(mark, min(at, 12)) for at, mark in enumerate(names(40))])
        self.assertEqual(forest.hanging(0), list(range(40)))
        self.assertEqual(forest.hanging(11), list(range(11, 40)))
        self.assertEqual(forest.hanging(12), [12])
        self.assertEqual(forest.hanging(39), [39])

    def test_every_small_thing(self):
        for thing in small_things():
            for place in range(thing.many()):
                expected = [place]
                if isinstance(thing, Forest):
                    nodes = thing.form()[1]
                    expected += [low for low in range(len(nodes)) if place in hung_under(nodes, low)]
                self.assertIs(type(thing.hanging(place)), list)
                self.assertEqual(thing.hanging(place), expected)


if __name__ == "__main__":
    unittest.main()

import unittest

from samples import LONG, NO_LISTS, NO_MARKS, NO_WHOLES, names, small_forests, small_rows, small_tables
from shrinkhouse.errors import NoThing
from shrinkhouse.things import Forest, Row, Table, Thing


class MakingTest(unittest.TestCase):
    """Point 5."""

    def refused(self, made, handed_in):
        with self.subTest(handed_in=handed_in), self.assertRaises(NoThing) as caught:
            made(handed_in)
        self.assertIs(type(caught.exception), NoThing)

    def told(self, thing, many, spots):
        self.assertIsInstance(thing, Thing)
        self.assertIs(type(thing.many()), int)
        self.assertEqual(thing.many(), many)
        self.assertIs(type(thing.spots()), list)
        self.assertEqual(thing.spots(), spots)


class RowTest(MakingTest):
    def test_rows(self):
        for marks in [[], ["a"], ["a", "a"], ["b", "a", "b"], ["abcdefgh", "z"], names(39), names(40), ["a"] * 40]:
            with self.subTest(marks=marks):
                self.told(Row(marks), len(marks), marks)

    def test_too_many_marks(self):
        for many in [41, 42, 100]:
            self.refused(Row, ["a"] * many)

    def test_no_list(self):
        for handed_in in NO_LISTS:
            self.refused(Row, handed_in)

    def test_no_mark_at_any_place(self):
        for wrong in NO_MARKS:
            for at in range(3):
                marks = ["a", "b"]
                marks.insert(at, wrong)
                self.refused(Row, marks)
            self.refused(Row, [wrong])

    def test_nodes_and_lines_make_no_row(self):
        for handed_in in [[("a", 0)], [["a"]], [[]], [()]]:
            self.refused(Row, handed_in)

    def test_good_behind_a_refusal(self):
        self.refused(Row, ["a", "B"])
        self.told(Row(["a", "b"]), 2, ["a", "b"])

    def test_kind(self):
        for row in small_rows():
            self.assertIs(type(row), Row)
        self.assertTrue(issubclass(Row, Thing))


class ForestTest(MakingTest):
    def test_forests(self):
        for nodes in [
            [],
            [("a", 0)],
            [("a", 0), ("b", 0)],
            [("a", 0), ("b", 1), ("c", 1), ("d", 2), ("e", 0)],
            [("a", 0), ("b", 1), ("c", 2), ("d", 0), ("e", 1)],
            [(mark, 0) for mark in names(40)],
            [(mark, at % 13) for at, mark in enumerate(names(40))],
            [(mark, min(at, 12)) for at, mark in enumerate(names(40))],
        ]:
            with self.subTest(nodes=nodes):
                self.told(Forest(nodes), len(nodes), [mark for mark, depth in nodes])

    def test_too_many_nodes(self):
        for many in [41, 42, 100]:
            self.refused(Forest, [("a", 0)] * many)
            self.refused(Forest, [("a", at % 2) for at in range(many)])

    def test_depth_of_twelve_and_of_thirteen(self):
        nodes = [("a", at) for at in range(13)]
        self.told(Forest(nodes), 13, ["a"] * 13)
        self.told(Forest(nodes + [("b", 12)]), 14, ["a"] * 13 + ["b"])
        self.refused(Forest, nodes + [("b", 13)])
        self.refused(Forest, nodes + [("b", 12), ("c", 13)])
        self.refused(Forest, nodes + [("b", 14)])

    def test_no_list(self):
        for handed_in in NO_LISTS:
            self.refused(Forest, handed_in)

    def test_no_node_at_any_place(self):
        for wrong in [
            None, True, 0, "a", "a0", "", [], ["a", 0], ["a"], (), ("a",), (0,), ("a", 0, 0), ("a", 0, None),
            (("a", 0),), [("a", 0)], (0, "a"), (("a", 0), ("b", 0)), (None, None), ((), ()), ([], 0),
        ]:
            for at in range(3):
                nodes = [("a", 0), ("b", 0)]
                nodes.insert(at, wrong)
                self.refused(Forest, nodes)
            self.refused(Forest, [wrong])

    def test_no_mark_at_any_place(self):
        for wrong in NO_MARKS:
            for at in range(3):
                nodes = [("a", 0), ("b", 0)]
                nodes.insert(at, (wrong, 0))
                self.refused(Forest, nodes)

    def test_no_whole_depth_at_any_place(self):
        for wrong in NO_WHOLES:
            for at in range(3):
                nodes = [("a", 0), ("b", 0)]
                nodes.insert(at, ("c", wrong))
                self.refused(Forest, nodes)
            self.refused(Forest, [("a", 0), ("b", 1), ("c", wrong)])

    def test_depth_below_nought(self):
        for depth in [-1, -2, -LONG]:
            self.refused(Forest, [("a", depth)])
            self.refused(Forest, [("a", 0), ("b", depth)])
            self.refused(Forest, [("a", depth), ("b", depth + 1)])

    def test_first_depth_is_nought(self):
        for depth in [1, 2, 12, 13, LONG]:
            self.refused(Forest, [("a", depth)])
            self.refused(Forest, [("a", depth), ("b", 0)])

    def test_depth_two_more_than_the_one_ahead(self):
        self.refused(Forest, [("a", 0), ("b", 2)])
        self.refused(Forest, [("a", 0), ("b", LONG)])
        self.refused(Forest, [("a", 0), ("b", 1), ("c", 3)])
        self.refused(Forest, [("a", 0), ("b", 1), ("c", 2), ("d", 0), ("e", 2)])
        self.refused(Forest, [("a", 0), ("b", 1), ("c", 0), ("d", 2)])

    def test_good_behind_a_refusal(self):
        self.refused(Forest, [("a", 0), ("b", 2)])
        self.told(Forest([("a", 0), ("b", 1)]), 2, ["a", "b"])

    def test_kind(self):
        for forest in small_forests():
            self.assertIs(type(forest), Forest)
        self.assertTrue(issubclass(Forest, Thing))


class TableTest(MakingTest):
    def test_tables(self):
        for lines in [
            [], [["a"]], [["a", "b"]], [["a"], ["b"]], [["a", "b", "c"], ["d", "e", "f"]],
            [names(12)] * 12, [names(12)], [["a"]] * 12,
        ]:
            with self.subTest(lines=lines):
                spots = [mark for line in lines for mark in line]
                self.told(Table(lines), len(lines) + (len(lines[0]) if lines else 0), spots)

    def test_lines_without_marks(self):
        for many in range(13):
            self.told(Table([[] for at in range(many)]), many, [])

    def test_too_many_lines(self):
        for many in [13, 14, 100]:
            self.refused(Table, [["a"] for at in range(many)])
            self.refused(Table, [[] for at in range(many)])

    def test_too_many_marks(self):
        for many in [13, 14, 100]:
            self.refused(Table, [["a"] * many])
            self.refused(Table, [["a"] * many, ["b"] * many])
            self.refused(Table, [["a"] * 12, ["b"] * many])

    def test_no_list(self):
        for handed_in in NO_LISTS:
            self.refused(Table, handed_in)

    def test_a_line_that_is_no_list(self):
        for wrong in NO_LISTS:
            for at in range(3):
                lines = [["a"], ["b"]]
                lines.insert(at, wrong)
                self.refused(Table, lines)
            self.refused(Table, [wrong])
            self.refused(Table, [[], wrong])

    def test_no_mark_at_any_place(self):
        for wrong in NO_MARKS:
            for line in range(2):
                for column in range(2):
                    lines = [["a", "b"], ["c", "d"]]
                    lines[line][column] = wrong
                    self.refused(Table, lines)

    def test_lines_of_unlike_length(self):
        for lines in [
            [["a"], []], [[], ["a"]], [["a", "b"], ["c"]], [["a"], ["b", "c"]], [["a"], ["b"], ["c", "d"]],
            [["a"], ["b", "c"], ["d"]], [[], [], ["a"]], [["a", "b"], ["c", "d"], []],
        ]:
            self.refused(Table, lines)

    def test_good_behind_a_refusal(self):
        self.refused(Table, [["a"], []])
        self.told(Table([["a"], ["b"]]), 3, ["a", "b"])

    def test_kind(self):
        for table in small_tables():
            self.assertIs(type(table), Table)
        self.assertTrue(issubclass(Table, Thing))


if __name__ == "__main__":
    unittest.main()

import unittest

from samples import (
    LONG, NO_LISTS, NO_WHOLES, hung_under, names, small_forests, small_rows, small_tables, small_things, some_of,
)
from shrinkhouse.errors import NoPlace
from shrinkhouse.things import Forest, Row, Table

FOREST = [("a", 0), ("b", 1), ("c", 2), ("d", 2), ("e", 1), ("f", 0), ("g", 1)]


class LeftTest(unittest.TestCase):
    """Point 6, and the form of point 7, by which it is told."""

    def left(self, thing, places, form):
        with self.subTest(thing=thing.form(), places=places):
            rest = thing.left(places)
            self.assertIs(type(rest), type(thing))
            self.assertEqual(rest.form(), form)

    def test_row(self):
        row = Row(["a", "b", "a", "c"])
        self.left(row, [], ("row", ()))
        self.left(row, [0, 1, 2, 3], ("row", ("a", "b", "a", "c")))
        self.left(row, [0, 2], ("row", ("a", "a")))
        self.left(row, [3], ("row", ("c",)))
        self.left(Row([]), [], ("row", ()))

    def test_longest_row(self):
        marks = names(40)
        self.left(Row(marks), list(range(40)), ("row", tuple(marks)))
        self.left(Row(marks), [0, 39], ("row", (marks[0], marks[39])))

    def test_every_small_row(self):
        for row in small_rows():
            for places in some_of(range(row.many())):
                self.left(row, places, ("row", tuple(row.spots()[place] for place in places)))

    def test_forest(self):
        forest = Forest(FOREST)
        self.left(forest, [], ("forest", ()))
        self.left(forest, list(range(7)), ("forest", tuple(FOREST)))
        self.left(Forest([]), [], ("forest", ()))

    def test_forest_without_one_between(self):
        forest = Forest(FOREST)
        self.left(forest, [0, 2, 3, 4], ("forest", (("a", 0), ("c", 1), ("d", 1), ("e", 1))))
        self.left(forest, [1, 2, 3, 4], ("forest", (("b", 0), ("c", 1), ("d", 1), ("e", 0))))
        self.left(forest, [2, 4, 6], ("forest", (("c", 0), ("e", 0), ("g", 0))))
        self.left(forest, [0, 3, 6], ("forest", (("a", 0), ("d", 1), ("g", 0))))

    def test_deepest_forest(self):
        forest = Forest([(mark, at) for at, mark in enumerate(names(13))])
        odd = list(range(1, 13, 2))
        self.left(forest, odd, ("forest", tuple((names(13)[place], at) for at, place in enumerate(odd))))
        self.left(forest, [12], ("forest", ((names(13)[12], 0),)))

    def test_every_small_forest(self):
        for forest in small_forests():
            nodes = forest.form()[1]
            for places in some_of(range(forest.many())):
                expected = tuple(
                    (nodes[place][0], len([up for up in hung_under(nodes, place) if up in places]))
                    for place in places
                )
                self.left(forest, places, ("forest", expected))

    def test_table(self):
        table = Table([["a", "b", "c"], ["d", "e", "f"]])
        self.left(table, [0, 1, 2, 3, 4], ("table", 3, (("a", "b", "c"), ("d", "e", "f"))))
        self.left(table, [1, 2, 4], ("table", 2, (("d", "f"),)))
        self.left(table, [0, 3], ("table", 1, (("b",),)))
        self.left(table, [], ("table", 0, ()))
        self.left(Table([]), [], ("table", 0, ()))

    def test_lines_without_columns_and_columns_without_lines(self):
        table = Table([["a", "b", "c"], ["d", "e", "f"]])
        self.left(table, [0, 1], ("table", 0, ((), ())))
        self.left(table, [1], ("table", 0, ((),)))
        self.left(table, [2, 3, 4], ("table", 3, ()))
        self.left(table, [3], ("table", 1, ()))

    def test_columns_without_lines_are_places_still(self):
        rest = Table([["a", "b", "c"], ["d", "e", "f"]]).left([2, 3, 4])
        self.assertEqual(rest.many(), 3)
        self.assertEqual(rest.spots(), [])
        self.left(rest, [0, 2], ("table", 2, ()))
        self.left(rest.left([0, 2]), [1], ("table", 1, ()))
        self.left(rest, [], ("table", 0, ()))
        with self.assertRaises(NoPlace):
            rest.left([3])

    def test_lines_without_columns_are_places_still(self):
        rest = Table([["a", "b", "c"], ["d", "e", "f"]]).left([0, 1])
        self.assertEqual(rest.many(), 2)
        self.assertEqual(rest.spots(), [])
        self.left(rest, [1], ("table", 0, ((),)))

    def test_every_small_table(self):
        for table in small_tables():
            lines = table.form()[2]
            for places in some_of(range(table.many())):
                columns = [place - len(lines) for place in places if place >= len(lines)]
                kept = [lines[place] for place in places if place < len(lines)]
                expected = tuple(tuple(line[column] for column in columns) for line in kept)
                self.left(table, places, ("table", len(columns), expected))

    def test_what_is_left_of_what_was_left(self):
        for thing in small_things():
            for places in some_of(range(thing.many())):
                rest = thing.left(places)
                self.assertEqual(rest.many(), len(places))
                for again in ([], list(range(len(places))), list(range(0, len(places), 2)), list(range(len(places)))[1:]):
                    self.left(rest, again, thing.left([places[at] for at in again]).form())


class NoPlaceTest(unittest.TestCase):
    """Point 6: what is no list of places."""

    def things(self):
        return [
            Row(["a", "b", "c"]), Forest([("a", 0), ("b", 1), ("c", 0)]), Table([["a", "b"]]),
            Table([["a", "b", "c"]]).left([1, 2, 3]), Table([["a"], ["b"], ["c"]]).left([0, 1, 2]),
        ]

    def empty_things(self):
        return [Row([]), Forest([]), Table([]), Table([["a"]]).left([])]

    def refused(self, thing, places):
        with self.subTest(thing=thing.form(), places=places), self.assertRaises(NoPlace) as caught:
            thing.left(places)
        self.assertIs(type(caught.exception), NoPlace)

    def test_no_list(self):
        for thing in self.things() + self.empty_things():
            for places in NO_LISTS:
                self.refused(thing, places)

    def test_no_whole_number(self):
        for thing in self.things():
            for wrong in NO_WHOLES:
                for at in range(3):
                    places = [0, 2]
                    places.insert(at, wrong)
                    self.refused(thing, places)
                self.refused(thing, [wrong])

    def test_below_nought(self):
        for thing in self.things():
            for place in [-1, -2, -3, -4, -LONG]:
                self.refused(thing, [place])
                self.refused(thing, [place, 0])
                self.refused(thing, [0, place])

    def test_beyond_the_last(self):
        for thing in self.things():
            self.assertEqual(thing.many(), 3)
            for place in [3, 4, 40, 41, 2 ** 64, LONG]:
                self.refused(thing, [place])
                self.refused(thing, [0, place])
                self.refused(thing, [0, 1, 2, place])
        for thing in self.empty_things():
            for place in [0, 1, -1, LONG, True, False, None, "a", []]:
                self.refused(thing, [place])

    def test_twice_or_not_rising(self):
        for thing in self.things():
            for places in [[0, 0], [2, 2], [0, 1, 1], [1, 0], [2, 1, 0], [0, 2, 1], [1, 2, 0]]:
                self.refused(thing, places)

    def test_good_behind_a_refusal(self):
        for thing in self.things():
            before = thing.form()
            self.refused(thing, [1, 0])
            self.assertEqual(thing.form(), before)
            self.assertEqual(thing.left([0, 1, 2]).form(), before)


if __name__ == "__main__":
    unittest.main()

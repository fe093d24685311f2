import unittest

from samples import small_things
from shrinkhouse.things import Forest, Row, Table


class FormTest(unittest.TestCase):
    """Point 7."""

    def tuples_throughout(self, value):
        if not isinstance(value, (str, int)):
            self.assertIs(type(value), tuple)
            for part in value:
                self.tuples_throughout(part)

    def test_forms(self):
        for thing, form in [
            (Row([]), ("row", ())),
            (Row(["a", "b"]), ("row", ("a", "b"))),
            (Forest([]), ("forest", ())),
            (Forest([("a", 0), ("b", 1)]), ("forest", (("a", 0), ("b", 1)))),
            (Table([["a", "b"], ["c", "d"]]), ("table", 2, (("a", "b"), ("c", "d")))),
            (Table([["a", "b", "c"]]), ("table", 3, (("a", "b", "c"),))),
        ]:
            with self.subTest(form=form):
                self.assertEqual(thing.form(), form)
                self.tuples_throughout(thing.form())

    def test_tables_without_marks(self):
        self.assertEqual(Table([]).form(), ("table", 0, ()))
        self.assertEqual(Table([[]]).form(), ("table", 0, ((),)))
        self.assertEqual(Table([[], [], []]).form(), ("table", 0, ((), (), ())))
        self.assertEqual(Table([["a", "b"]]).left([1, 2]).form(), ("table", 2, ()))
        self.assertEqual(Table([["a", "b"]]).left([1]).form(), ("table", 1, ()))
        self.assertEqual(Table([["a", "b"]]).left([]).form(), ("table", 0, ()))

    def test_tuples_throughout(self):
        for thing in small_things():
            self.tuples_throughout(thing.form())
            self.tuples_throughout(thing.left(list(range(0, thing.many(), 2))).form())

    def test_unlike_things_have_unlike_forms(self):
        forms = [
            Row([]).form(), Forest([]).form(), Table([]).form(), Table([[]]).form(), Table([["a"]]).left([1]).form(),
            Row(["a"]).form(), Forest([("a", 0)]).form(), Table([["a"]]).form(), Table([["a", "a"]]).form(),
            Table([["a"], ["a"]]).form(), Forest([("a", 0), ("a", 0)]).form(), Forest([("a", 0), ("a", 1)]).form(),
        ]
        self.assertEqual(len(set(forms)), len(forms))

    def test_same_things_have_equal_forms(self):
        self.assertEqual(Row(["a", "b", "a"]).left([0, 1]).form(), Row(["a", "b", "a", "b"]).left([2, 3]).form())
        self.assertEqual(Forest([("a", 0), ("b", 1)]).left([1]).form(), Forest([("b", 0)]).form())
        self.assertEqual(Table([["a", "b"]]).left([0]).form(), Table([[]]).form())


if __name__ == "__main__":
    unittest.main()

import unittest

from samples import LONG, NO_MARKS, SIGNS, depths_of, names, small_things, some_of
from shrinkhouse.errors import NoText
from shrinkhouse.things import Forest, Row, Table, Thing
from shrinkhouse.thingtexts import read_thing, show_thing
from textmodels import form_of_text, text_of_form

# A text and the thing that it is the text of.
PAIRS = [
    ("row", Row([])),
    ("row a", Row(["a"])),
    ("row a b", Row(["a", "b"])),
    ("row b a b", Row(["b", "a", "b"])),
    ("row abcdefgh zyxwvuts", Row(["abcdefgh", "zyxwvuts"])),
    ("row row forest table", Row(["row", "forest", "table"])),
    ("forest", Forest([])),
    ("forest a", Forest([("a", 0)])),
    ("forest a,b", Forest([("a", 0), ("b", 0)])),
    ("forest a,a,a", Forest([("a", 0), ("a", 0), ("a", 0)])),
    ("forest a(b)", Forest([("a", 0), ("b", 1)])),
    ("forest a(b,c)", Forest([("a", 0), ("b", 1), ("c", 1)])),
    ("forest a(b(c))", Forest([("a", 0), ("b", 1), ("c", 2)])),
    ("forest a(b(c)),d", Forest([("a", 0), ("b", 1), ("c", 2), ("d", 0)])),
    ("forest a(b(c),d)", Forest([("a", 0), ("b", 1), ("c", 2), ("d", 1)])),
    ("forest a(b,c(d)),e", Forest([("a", 0), ("b", 1), ("c", 1), ("d", 2), ("e", 0)])),
    ("forest a,b(c),d", Forest([("a", 0), ("b", 0), ("c", 1), ("d", 0)])),
    ("forest forest(row,table),abcdefgh", Forest([("forest", 0), ("row", 1), ("table", 1), ("abcdefgh", 0)])),
    ("table", Table([])),
    ("table -", Table([[]])),
    ("table - / -", Table([[], []])),
    ("table a", Table([["a"]])),
    ("table a b", Table([["a", "b"]])),
    ("table a / b", Table([["a"], ["b"]])),
    ("table a b / c d", Table([["a", "b"], ["c", "d"]])),
    ("table a b c / d e f / g h i", Table([["a", "b", "c"], ["d", "e", "f"], ["g", "h", "i"]])),
    ("table table row / abcdefgh forest", Table([["table", "row"], ["abcdefgh", "forest"]])),
]


def chain(many):
    """Nodes each of which hangs under the one ahead."""
    return Forest([("a", depth) for depth in range(many)])


def full_things():
    """Things that are as large as point 5 allows."""
    return [
        Row(names(40)), Row(["abcdefgh"] * 40), Forest([(mark, 0) for mark in names(40)]),
        Forest([("abcdefgh", at % 13) for at in range(40)]),
        Forest([(mark, min(at, 12)) for at, mark in enumerate(names(40))]),
        Forest([("a", [0, 1, 2, 2, 1, 2, 3][at % 7]) for at in range(40)]), chain(13),
        Table([names(12)] * 12), Table([["abcdefgh"] * 12] * 12), Table([[]] * 12), Table([["a"]] * 12),
        Table([names(12)]),
    ]


def every_thing():
    for text, thing in PAIRS:
        yield thing
    yield from full_things()
    yield from small_things()


class ShowTest(unittest.TestCase):
    """Point 25."""

    def shown(self, thing, text):
        with self.subTest(text=text):
            self.assertIs(type(show_thing(thing)), str)
            self.assertEqual(show_thing(thing), text)

    def test_word_by_word(self):
        for text, thing in PAIRS:
            self.shown(thing, text)

    def test_full_ones(self):
        self.shown(Row(["a"] * 40), "row" + " a" * 40)
        self.shown(Forest([("a", 0)] * 40), "forest a" + ",a" * 39)
        self.shown(chain(13), "forest a(a(a(a(a(a(a(a(a(a(a(a(a))))))))))))")
        self.shown(Forest([("a", min(at, 12)) for at in range(15)]), "forest " + "a(" * 12 + "a,a,a" + ")" * 12)
        self.shown(Table([["a"] * 12] * 12), "table " + " / ".join(["a a a a a a a a a a a a"] * 12))
        self.shown(Table([[]] * 12), "table -" + " / -" * 11)

    def test_columns_without_lines(self):
        table = Table([["a", "b"], ["c", "d"]])
        for places in [[2], [3], [2, 3], []]:
            self.shown(table.left(places), "table")

    def test_lines_without_columns(self):
        table = Table([["a", "b"], ["c", "d"]])
        self.shown(table.left([0]), "table -")
        self.shown(table.left([0, 1]), "table - / -")

    def test_many_things(self):
        for thing in every_thing():
            before = thing.form()
            self.shown(thing, text_of_form(before))
            self.assertEqual(thing.form(), before)

    def test_what_is_left(self):
        for thing in list(small_things())[::6]:
            for places in some_of(range(thing.many())):
                rest = thing.left(places)
                self.shown(rest, text_of_form(rest.form()))

    def test_every_way_to_hang(self):
        for many in range(8):
            for depths in depths_of(many):
                forest = Forest(list(zip(names(many), depths)))
                self.shown(forest, text_of_form(forest.form()))


class ReadTest(unittest.TestCase):
    """Point 26: what is read."""

    def read(self, text, form):
        with self.subTest(text=text):
            thing = read_thing(text)
            self.assertIsInstance(thing, Thing)
            self.assertIs(type(thing), {"row": Row, "forest": Forest, "table": Table}[form[0]])
            self.assertEqual(thing.form(), form)
            self.assertEqual(show_thing(thing), text)

    def test_word_by_word(self):
        for text, thing in PAIRS:
            self.read(text, thing.form())

    def test_the_text_of_each_thing(self):
        for thing in every_thing():
            self.read(show_thing(thing), thing.form())

    def test_every_way_to_hang(self):
        for many in range(8):
            for depths in depths_of(many):
                forest = Forest(list(zip(names(many), depths)))
                self.read(show_thing(forest), forest.form())

    def test_columns_without_lines(self):
        table = Table([["a", "b"], ["c", "d"]]).left([2, 3])
        self.assertEqual(table.form(), ("table", 2, ()))
        thing = read_thing(show_thing(table))
        self.assertEqual(thing.form(), ("table", 0, ()))
        self.assertEqual(thing.many(), 0)

    def test_what_is_left_of_small_things(self):
        for thing in list(small_things())[::6]:
            for places in some_of(range(thing.many())):
                form = thing.left(places).form()
                if form[0] == "table" and form[2] == ():
                    form = ("table", 0, ())
                self.read(show_thing(thing.left(places)), form)

    def test_two_readings_are_apart(self):
        for text, thing in PAIRS:
            first = read_thing(text)
            spots = first.spots()
            spots.append("spoilt")
            self.assertEqual(read_thing(text).form(), thing.form())
            self.assertEqual(first.form(), thing.form())


class NoTextTest(unittest.TestCase):
    """Point 26: what is refused."""

    def refused(self, text):
        with self.subTest(text=text), self.assertRaises(NoText) as caught:
            read_thing(text)
        self.assertIs(type(caught.exception), NoText)

    def as_told(self, text):
        """Read or refused as the point tells it."""
        form = form_of_text(text)
        if form is None:
            self.refused(text)
        else:
            self.assertEqual(read_thing(text).form(), form)

    def test_no_text(self):
        for thing in [
            None, True, False, 0, 1, -1, LONG, -LONG, [], (), ["row"], ("row",), ["row a"], ["row", "a"], ("row", "a"),
            ("row", ("a",)), ("table", 0, ()), ("forest", (("a", 0),)), [["row"]], [[[["row"]]]], [("a", 0)],
            [["a", "b"]],
        ]:
            self.refused(thing)

    def test_other_words(self):
        for text in [
            "", " ", "  ", "\n", "\t", "a", "a b", "-", "/", "rows", "ro", "r", "ow", "rowa", "rowrow", "rowa b",
            "Row", "ROW", "Row a", "ROW A", "rOw a", "forests", "fores", "Forest", "FOREST", "foresta", "Forest a",
            "FOREST a", "tree a", "tables", "tabl", "Table", "TABLE", "Table a", "table-", "tablea", "line a", "none",
            "ok", "thing", "thing row", "thing row a", "row,a", "row(a)", "table/a", "forest(a)", "forest,a",
            "fault has(a)", "has(a)", "row\na", "row\ta", "table\na", "forest\ta", "row\n", "\nrow", "table\n",
            "forest\n", "\ttable", "0", "row0", "[]", "['a']", "None",
        ]:
            self.refused(text)

    def test_blanks(self):
        for text, thing in PAIRS:
            self.refused(" " + text)
            self.refused(text + " ")
            for at, sign in enumerate(text):
                if sign == " ":
                    for other in ["  ", "   ", "", "\n", "\t", " \n", "\n ", " \t", "\t "]:
                        self.as_told(text[:at] + other + text[at + 1:])
        for text in ["row ", "row  ", "row  a", "row a  b", "row a ", "forest ", "forest  a", "forest a ", "forest a b",
                     "forest a ,b", "forest a, b", "forest a( b)", "forest a (b)", "forest a(b )", "forest a(b) ",
                     "table ", "table  a", "table a  b", "table a  / b", "table a /  b", "table a/ b", "table a /b",
                     "table a/b", "table -/-", "table - /-", "table -/ -", "table - ", "table  -", "table - / - "]:
            self.refused(text)

    def test_line_ends_and_tabs(self):
        for text, thing in PAIRS:
            for sign in ["\n", "\t"]:
                for at in range(len(text) + 1):
                    self.refused(text[:at] + sign + text[at:])

    def test_bars_and_dashes(self):
        for text in [
            "row -", "row a -", "row - a", "row /", "row a / b", "row / a", "row a /", "forest -", "forest /",
            "forest a / b", "forest a,-", "forest -(a)", "forest a(-)", "forest a(/)", "table /", "table / /",
            "table a /", "table / a", "table a / / b", "table - /", "table / -", "table - / / -", "table - -",
            "table - a", "table a -", "table a - b", "table --", "table -- / --", "table //", "table a // b",
            "table a b / c -", "table a b / - d", "table - - / - -", "table a / -", "table - / a", "table a b / -",
            "table - / a b", "table a b / - / c d", "table -a", "table a-", "table a\\b", "table a | b", "table -/",
            "table a / b /", "table a / b / ",
        ]:
            self.refused(text)

    def test_lines_of_unlike_length(self):
        for text in [
            "table a b / c", "table a / b c", "table a / b / c d", "table a b / c d / e", "table a b c / d e",
            "table a b / c / d e", "table a / b c / d", "table a b / c d e",
        ]:
            self.refused(text)

    def test_brackets_and_commas(self):
        for text in [
            "forest ()", "forest (", "forest )", "forest ,", "forest a(", "forest a)", "forest a()", "forest (a)",
            "forest a(b", "forest a(b))", "forest a((b))", "forest a((b)", "forest a(b)(c)", "forest a(b)c",
            "forest a(b)c(d)", "forest (a)b", "forest a,", "forest ,a", "forest a,,b", "forest a,b,", "forest a(,b)",
            "forest a(b,)", "forest a(b,,c)", "forest a(,)", "forest a,(b)", "forest a(b),", "forest a(b),,c",
            "forest a(b,c(d)),e)", "forest a(b,c(d),e", "forest a(b()),c", "forest a(b(),c)", "forest a)b(",
            "forest a)(b", "forest )a(", "forest a,b)", "forest (a,b)", "forest a[b]", "forest a{b}", "forest a;b",
            "forest a.b", "forest a(b;c)", "forest a(b)),(c", "forest a(b)),c(d", "row a,b", "row a(b)", "row (a)",
            "row ()", "row ,", "table a(b)", "table a,b", "table ()", "table (a)",
        ]:
            self.refused(text)

    def test_marks_that_are_none(self):
        for mark in NO_MARKS:
            if isinstance(mark, str) and len(mark) < 1000:
                for text in [f"row {mark}", f"row a {mark}", f"row {mark} a", f"forest {mark}", f"forest a({mark})",
                             f"forest {mark}(a)", f"forest b,{mark}", f"table {mark}", f"table a {mark} / b c",
                             f"table a b / c {mark}"]:
                    self.as_told(text)
        for mark in ["", "abcdefghi", "A", "a1", "1", "aB", "a_", "`", "{", "@", "[", "~", "a b", "\n", "a\n"]:
            for text in [f"row {mark}c C", f"forest {mark}(A)", f"table {mark} 1"]:
                self.refused(text)
        for mark in ["abcdefghi", "A", "a1", "1", "aB", "a_", "`", "{", "@", "[", "~", "a\n", "\ta", "a-b"]:
            for text in [f"row {mark}", f"row a {mark} b", f"forest {mark}", f"forest a({mark})", f"forest {mark}(a)",
                         f"forest a,{mark}", f"table {mark}", f"table a / {mark}", f"table {mark} a"]:
                self.refused(text)

    def test_too_many(self):
        for good, wrong in [
            ("row" + " a" * 40, "row" + " a" * 41),
            ("forest " + ",".join("a" * 40), "forest " + ",".join("a" * 41)),
            ("forest a(" + ",".join("b" * 39) + ")", "forest a(" + ",".join("b" * 40) + ")"),
            ("table" + " a" * 12, "table" + " a" * 13),
            ("table " + " / ".join("a" * 12), "table " + " / ".join("a" * 13)),
            ("table " + " / ".join("-" * 12), "table " + " / ".join("-" * 13)),
            ("table " + " / ".join(["a b"] * 12), "table " + " / ".join(["a b"] * 13)),
            ("table" + " a" * 12 + " /" + " a" * 12, "table" + " a" * 13 + " /" + " a" * 13),
            ("row abcdefgh", "row abcdefghi"), ("forest a(abcdefgh)", "forest a(abcdefghi)"),
            ("table abcdefgh", "table abcdefghi"),
        ]:
            self.assertEqual(show_thing(read_thing(good)), good)
            self.refused(wrong)
        for many in [42, 100, 500, 900]:
            self.refused("row" + " a" * many)
            self.refused("forest a" + ",a" * many)
            self.refused("table" + " a" * many)
            self.refused("table a" + " / a" * (many // 2))

    def test_too_deep(self):
        for open_ones in range(31):
            text = "forest " + "a(" * open_ones + "b" + ")" * open_ones
            if open_ones <= 12:
                self.assertEqual(read_thing(text).form()[1][-1], ("b", open_ones))
            else:
                self.refused(text)
            self.refused(text[:-1] if open_ones else text + ")")
        self.refused("forest x," + "a(" * 13 + "b" + ")" * 13)
        self.refused("forest " + "(" * 30)
        self.refused("forest " + "a(" * 30)
        self.refused("forest " + ")" * 1000)

    def test_one_sign_changed_put_in_or_left_out(self):
        for text, thing in PAIRS:
            for at in range(len(text) + 1):
                self.as_told(text[:at] + text[at + 1:])
                for sign in ["a", "b", "A", "1", " ", "/", "-", "(", ")", ",", "\n", "\t", "_"]:
                    self.as_told(text[:at] + sign + text[at:])
                    self.as_told(text[:at] + sign + text[at + 1:])

    def test_each_sign(self):
        for text in ["row a b", "forest a(b),c", "table a b / c d", "table - / -"]:
            for at in range(len(text) + 1):
                for sign in SIGNS:
                    self.as_told(text[:at] + sign + text[at:])
                    self.as_told(text[:at] + sign + text[at + 1:])

    def test_parts_taken_out_or_put_elsewhere(self):
        for text, thing in PAIRS:
            for start in range(len(text)):
                for end in range(start + 2, len(text) + 1):
                    self.as_told(text[:start] + text[end:])
                    self.as_told(text[:start] + text[start:end] * 2 + text[end:])

    def test_good_behind_a_refusal(self):
        for text, thing in PAIRS:
            self.refused(text + "(")
            self.refused(None)
            self.assertEqual(read_thing(text).form(), thing.form())


if __name__ == "__main__":
    unittest.main()

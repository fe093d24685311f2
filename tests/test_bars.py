import unittest
from copy import deepcopy
from itertools import combinations

from askmodels import Book, Refused, bars_of, needed_of, places_of
from faultmodels import JOINTS, LEAVES, grows_of, holds_of, made
from samples import (
    LONG, lists_of_rules, no_places_of_three, small_forests, small_rows, small_tables, some_of, spoil, things_of_three,
)
from shrinkhouse.asking import Asker
from shrinkhouse.bars import bars, needed
from shrinkhouse.errors import Healthy, NoPlace, Spent
from shrinkhouse.faults import All, Any, Before, Beside, Has, Many, Not, Under
from shrinkhouse.shrinking import shrunk
from shrinkhouse.things import Forest, Row, Table

ROW = ["a", "b", "a", "b"]
FOREST = [("a", 0), ("b", 1), ("c", 2), ("b", 1), ("a", 0), ("c", 1)]
TABLE = [["a", "b"], ["b", "a"], ["c", "c"]]

TWO_OF_THREE = Any([All([Has("a"), Has("b")]), All([Has("b"), Has("c")]), All([Has("a"), Has("c")])])

GROWING = [
    ("has", "a"), ("many", 2, "a"), ("many", 2, "b"), ("before", "a", "b"), ("before", "b", "a"), ("under", "a", "b"),
    ("all", ("has", "a"), ("has", "b")),
    ("any", ("has", "a"), ("has", "c")),
    ("any", ("many", 2, "a"), ("many", 2, "b"), ("before", "a", "b")),
    ("any", ("under", "a", "b"), ("all", ("has", "b"), ("has", "c"))),
    ("all", ("any", ("has", "a"), ("has", "c")), ("has", "b")),
]
NOT_GROWING = [
    ("beside", "a", "b"), ("not", ("has", "b")), ("not", ("not", ("has", "a"))),
    ("any", ("has", "a"), ("not", ("has", "a"))), ("all", ("has", "a"), ("any", ("has", "b"), ("beside", "a", "b"))),
]
ERRORS = {"Healthy": Healthy, "Spent": Spent}


def some_things():
    return list(small_rows())[::3] + list(small_forests())[::7] + list(small_tables())[::6]


class ShowingTest(unittest.TestCase):
    def refused(self, error, told):
        with self.assertRaises(error) as caught:
            told()
        self.assertIs(type(caught.exception), error)

    def as_told(self, told, expected):
        """Both are called; they answer or are refused alike."""
        try:
            value = expected()
        except Refused as refusal:
            self.refused(ERRORS[refusal.args[0]], told)
        else:
            self.assertEqual(told(), value)


class NeededTest(ShowingTest):
    """Point 22."""

    def needs(self, thing, fault, expected, log):
        asker = Asker(thing, fault, len(log))
        with self.subTest(thing=thing.form(), fault=fault.shown()):
            found = needed(asker)
            self.assertIs(type(found), list)
            self.assertEqual(found, expected)
            self.assertEqual(asker.log(), log)

    def test_all_some_and_none(self):
        self.needs(Row(["a", "b"]), Before("a", "b"), [0, 1], [([0, 1], True), ([1], False), ([0], False)])
        self.needs(Row(["a", "b", "c"]), All([Has("a"), Has("c")]), [0, 2],
                   [([0, 1, 2], True), ([1, 2], False), ([0, 2], True), ([0, 1], False)])
        self.needs(Row(["a", "b"]), Any([Has("a"), Has("b")]), [], [([0, 1], True), ([1], True), ([0], True)])
        self.needs(Row(["a", "a"]), Has("a"), [], [([0, 1], True), ([1], True)])
        self.needs(Row(["a", "a"]), Many(2, "a"), [0, 1], [([0, 1], True), ([1], False)])

    def test_forest_and_table(self):
        self.needs(Forest([("a", 0), ("c", 1), ("b", 2)]), Under("a", "b"), [0, 2],
                   [([0, 1, 2], True), ([1, 2], False), ([0, 2], True), ([0, 1], False)])
        self.needs(Table(TABLE), Under("a", "c"), [2],
                   [([0, 1, 2, 3, 4], True), ([1, 2, 3, 4], True), ([0, 2, 3, 4], True), ([0, 1, 3, 4], False),
                    ([0, 1, 2, 4], True), ([0, 1, 2, 3], True)])

    def test_where_the_fault_does_not_grow(self):
        self.needs(Row(["a", "b", "c"]), All([Has("a"), Any([Not(Has("c")), Has("b")])]), [0, 1],
                   [([0, 1, 2], True), ([1, 2], False), ([0, 2], False), ([0, 1], True)])
        self.needs(Row(["a", "b", "c"]), Not(Beside("a", "c")), [1],
                   [([0, 1, 2], True), ([1, 2], True), ([0, 2], False), ([0, 1], True)])

    def test_a_thing_without_places(self):
        for thing in [Row([]), Forest([]), Table([]), Table(TABLE).left([])]:
            self.needs(thing, Not(Has("a")), [], [([], True)])

    def test_healthy(self):
        for thing, fault in [
            (Row(ROW), Has("x")), (Row([]), Has("a")), (Forest(FOREST), Under("c", "a")), (Table(TABLE), Not(Has("c"))),
            (Table([[]]), Has("a")), (Row(["a", "c", "b"]), Beside("a", "b")),
        ]:
            asker = Asker(thing, fault, 1)
            for turn in range(2):
                self.refused(Healthy, lambda: needed(asker))
                self.assertEqual(asker.log(), [(places_of(thing), False)])

    def test_spent_at_each_number(self):
        log = [([0, 1, 2], True), ([1, 2], False), ([0, 2], True), ([0, 1], False)]
        for most in range(6):
            asker = Asker(Row(["a", "b", "c"]), All([Has("a"), Has("c")]), most)
            for turn in range(2):
                if most < 4:
                    self.refused(Spent, lambda: needed(asker))
                else:
                    self.assertEqual(needed(asker), [0, 2])
                self.assertEqual(asker.log(), log[:most])

    def test_spent_ahead_of_healthy(self):
        self.refused(Spent, lambda: needed(Asker(Row(ROW), Has("x"), 0)))

    def test_what_was_asked_ahead_is_remembered(self):
        asker = Asker(Row(["a", "b", "c"]), All([Has("a"), Has("c")]), 4)
        asker.fails([0, 2])
        self.assertEqual(needed(asker), [0, 2])
        self.assertEqual(asker.log(), [([0, 2], True), ([0, 1, 2], True), ([1, 2], False), ([0, 1], False)])
        self.assertEqual(needed(asker), [0, 2])
        self.assertEqual(asker.asked(), 4)

    def test_changing_what_was_told_changes_nothing(self):
        asker = Asker(Row(["a", "b", "c"]), All([Has("a"), Has("c")]), 4)
        first = needed(asker)
        log = asker.log()
        second = needed(asker)
        spoil(second)
        self.assertEqual(first, [0, 2])
        self.assertEqual(needed(asker), [0, 2])
        self.assertEqual(asker.log(), log)

    def test_over_many_small_things(self):
        for at, thing in enumerate(some_things()):
            for model in GROWING + NOT_GROWING + LEAVES[at % 4:17:4] + JOINTS[at % 5::5]:
                many = None
                for most in [LONG, 0, 1, 2, 3, 4, 5, 6]:
                    if many is not None and most > many:
                        break
                    book = Book(thing, model, most)
                    asker = Asker(thing, made(model), most)
                    self.as_told(lambda: needed(asker), lambda: needed_of(book))
                    self.assertEqual(asker.log(), book.log)
                    many = asker.asked() if many is None else many


class BarsTest(ShowingTest):
    """Point 23, each question in its order."""

    def bars(self, thing, fault, places, expected, log):
        asker = Asker(thing, fault, len(log))
        with self.subTest(thing=thing.form(), fault=fault.shown(), places=places):
            found = bars(asker, places)
            self.assertEqual(found, expected)
            self.assertEqual(asker.log(), log)
            if found is not None:
                self.assertIs(type(found), list)
                for bar in found:
                    self.assertIs(type(bar), list)

    def test_one_place(self):
        self.bars(Row(ROW), Has("b"), [3], [[1, 3]],
                  [([3], True), ([], False), ([0], False), ([0, 1], True), ([0, 2], False)])
        self.bars(Row(["a", "b", "c"]), Has("c"), [2], [[2]], [([2], True), ([], False), ([0], False), ([0, 1], False)])
        self.bars(Row(["a", "b"]), Any([Has("a"), Has("b")]), [0], [[0, 1]], [([0], True), ([], False), ([1], True)])

    def test_several_places(self):
        self.bars(
            Row(["a", "b", "c", "d"]), Any([All([Has("a"), Has("b")]), All([Has("c"), Has("d")])]), [2, 3],
            [[1, 2], [0, 3]],
            [([2, 3], True), ([3], False), ([0, 3], False), ([0, 1, 3], True), ([1, 2], False), ([0, 1, 2], True)],
        )
        self.bars(
            Row(["a", "b", "a", "c", "b"]), Many(2, "a"), [0, 2], [[0], [2]],
            [([0, 2], True), ([2], False), ([1, 2], False), ([1, 2, 3], False), ([1, 2, 3, 4], False), ([0, 1], False),
             ([0, 1, 3], False), ([0, 1, 3, 4], False)],
        )

    def test_forest(self):
        self.bars(
            Forest(FOREST), Under("a", "c"), [4, 5], [[2, 4], [0, 5]],
            [([4, 5], True), ([5], False), ([0, 5], False), ([0, 1, 5], False), ([0, 1, 2, 5], True),
             ([0, 1, 3, 5], False), ([2, 4], False), ([0, 2, 4], True), ([1, 2, 4], False), ([1, 2, 3, 4], False)],
        )

    def test_table(self):
        self.bars(
            Table(TABLE), Under("a", "c"), [1, 2, 4], [[1, 3], [2], [0, 4]],
            [([1, 2, 4], True), ([2, 4], False), ([0, 2, 4], False), ([0, 2, 3, 4], True), ([1, 3, 4], False),
             ([0, 1, 3, 4], False), ([0, 1, 2, 3], True)],
        )

    def test_none(self):
        self.bars(Row(["a", "b", "c"]), TWO_OF_THREE, [1, 2], None,
                  [([1, 2], True), ([2], False), ([0, 2], True), ([0, 1], True)])
        # Where more places are listed than are needed.
        self.bars(Row(["a", "b"]), Has("b"), [0, 1], None, [([0, 1], True), ([1], True)])
        self.bars(Row(["a", "b"]), Has("a"), [0, 1], None, [([0, 1], True), ([1], False), ([0], True)])

    def test_no_places(self):
        for thing in [Row([]), Row(ROW), Forest(FOREST), Table(TABLE)]:
            asker = Asker(thing, Has("a"), 1)
            for turn in range(2):
                self.refused(Healthy, lambda: bars(asker, []))
                self.assertEqual(asker.log(), [([], False)])
            self.refused(Spent, lambda: bars(Asker(thing, Has("a"), 0), []))

    def test_a_fault_that_does_not_grow(self):
        for model in NOT_GROWING:
            for thing in [Row(ROW), Row([]), Forest(FOREST), Table(TABLE)]:
                for most in [0, LONG]:
                    asker = Asker(thing, made(model), most)
                    for places in some_of(range(thing.many())):
                        self.assertIsNone(bars(asker, places))
                    self.assertEqual(asker.log(), [])

    def test_healthy(self):
        for thing, fault, places in [
            (Row(ROW), Has("x"), [0, 1, 2, 3]), (Row(ROW), Has("b"), [0, 2]), (Row(ROW), Before("a", "b"), [1, 2]),
            (Forest(FOREST), Under("a", "c"), [0, 1, 3, 5]), (Table(TABLE), Has("a"), [0, 1, 2]),
        ]:
            asker = Asker(thing, fault, 1)
            for turn in range(2):
                self.refused(Healthy, lambda: bars(asker, places))
                self.assertEqual(asker.log(), [(places, False)])

    def test_spent_at_each_number(self):
        log = [([3], True), ([], False), ([0], False), ([0, 1], True), ([0, 2], False)]
        for most in range(7):
            asker = Asker(Row(ROW), Has("b"), most)
            for turn in range(2):
                if most < 5:
                    self.refused(Spent, lambda: bars(asker, [3]))
                else:
                    self.assertEqual(bars(asker, [3]), [[1, 3]])
                self.assertEqual(asker.log(), log[:most])

    def test_what_was_asked_ahead_is_remembered(self):
        asker = Asker(Row(ROW), Has("b"), 6)
        self.assertEqual(shrunk(asker, ["halves", "ones"])[1], [3])
        self.assertEqual(asker.asked(), 4)
        for turn in range(2):
            self.assertEqual(bars(asker, [3]), [[1, 3]])
            self.assertEqual(asker.log()[4:], [([0], False), ([0, 2], False)])

    def test_the_places_that_shrinking_left(self):
        for thing in [Row(ROW), Forest(FOREST), Table(TABLE)]:
            for rules in lists_of_rules()[::4]:
                for model in GROWING:
                    if holds_of(model, thing):
                        asker = Asker(thing, made(model), LONG)
                        book = Book(thing, model, LONG)
                        places = shrunk(asker, rules)[1]
                        before = asker.asked()
                        for asked, fails in asker.log():
                            book.fails(asked)
                        self.assertEqual(bars(asker, places), bars_of(book, places))
                        self.assertEqual(asker.log()[before:], book.log[before:])


class NoPlaceTest(ShowingTest):
    """Points 23 and 6: what is no list of places is refused ahead of all."""

    def test_any_thing(self):
        for thing in things_of_three():
            for fault in [Has("a"), Not(Has("a")), Has("x"), Beside("a", "b")]:
                for most in [0, LONG]:
                    asker = Asker(thing, fault, most)
                    for places in no_places_of_three():
                        with self.subTest(thing=thing.form(), fault=fault.shown(), places=places):
                            self.refused(NoPlace, lambda: bars(asker, places))
                    self.assertEqual(asker.log(), [])

    def test_of_a_thing_without_places(self):
        for thing in [Row([]), Forest([]), Table([]), Table(TABLE).left([])]:
            for fault in [Has("a"), Not(Has("a"))]:
                asker = Asker(thing, fault, 0)
                for places in [[0], [1], [-1], [False], [None], [[]], None, (), 0, "", True]:
                    with self.subTest(places=places):
                        self.refused(NoPlace, lambda: bars(asker, places))
                self.assertEqual(asker.log(), [])

    def test_good_behind_a_refusal(self):
        asker = Asker(Row(ROW), Has("b"), 5)
        for places in [[4], [1, 0], None, [True]]:
            self.refused(NoPlace, lambda: bars(asker, places))
        self.assertEqual(bars(asker, [3]), [[1, 3]])
        self.refused(NoPlace, lambda: bars(asker, [3, 3]))
        self.assertEqual(bars(asker, [3]), [[1, 3]])
        self.refused(Spent, lambda: bars(asker, [0, 1, 2]))
        self.assertEqual(bars(asker, [3]), [[1, 3]])


class KeptTest(ShowingTest):
    """Point 2."""

    def test_the_places_are_as_they_were(self):
        for thing, fault, places in [
            (Row(ROW), Has("b"), [3]), (Forest(FOREST), Under("a", "c"), [4, 5]),
            (Table(TABLE), Under("a", "c"), [1, 2, 4]),
            (Row(["a", "b", "c"]), TWO_OF_THREE, [1, 2]), (Row(["a", "b", "c"]), Not(Has("x")), [0, 2]),
        ]:
            before = list(places)
            bars(Asker(thing, fault, LONG), places)
            self.assertEqual(places, before)
        for error, most, places in [(Healthy, LONG, [0, 2]), (Spent, 1, [0, 3]), (NoPlace, 9, [3, [1], 0])]:
            before = deepcopy(places)
            self.refused(error, lambda: bars(Asker(Row(ROW), Has("b"), most), places))
            self.assertEqual(places, before)

    def test_changing_what_was_told_changes_nothing(self):
        for thing, fault, places in [
            (Row(ROW), Has("b"), [3]), (Forest(FOREST), Under("a", "c"), [4, 5]),
            (Table(TABLE), Under("a", "c"), [1, 2, 4]),
            (Row(["a", "b", "a", "c", "b"]), Many(2, "a"), [0, 2]),
        ]:
            asker = Asker(thing, fault, LONG)
            handed_in = list(places)
            first = bars(asker, handed_in)
            before = deepcopy(first)
            log = asker.log()
            second = bars(asker, handed_in)
            for at, bar in enumerate(second):
                bar.append(77)
                self.assertEqual(second[at + 1:], before[at + 1:])
            spoil(second)
            self.assertEqual(first, before)
            self.assertEqual(handed_in, places)
            self.assertEqual(asker.log(), log)
            self.assertEqual(bars(asker, handed_in), before)
            spoil(handed_in)
            self.assertEqual(first, before)
            self.assertEqual(asker.log(), log)
            self.assertEqual(bars(asker, places), before)


class EverySmallThingTest(ShowingTest):
    """Points 23 and 24, over many small things, and 3 and 21 where they speak of them."""

    def test_every_list_of_places(self):
        for at, thing in enumerate(some_things()):
            for model in GROWING + LEAVES[at % 3:14:3] + JOINTS[at % 4::4]:
                for places in some_of(range(thing.many())):
                    book = Book(thing, model, LONG)
                    asker = Asker(thing, made(model), LONG)
                    self.as_told(lambda: bars(asker, places), lambda: bars_of(book, places))
                    self.assertEqual(asker.log(), book.log)

    def test_spent_at_each_number(self):
        for at, thing in enumerate(some_things()[::4]):
            for model in GROWING[at % 3::3]:
                for places in list(some_of(range(thing.many())))[at % 2::2]:
                    for most in range(8):
                        book = Book(thing, model, most)
                        asker = Asker(thing, made(model), most)
                        self.as_told(lambda: bars(asker, places), lambda: bars_of(book, places))
                        self.assertEqual(asker.log(), book.log)
                        self.assertLessEqual(asker.asked(), most)

    def test_what_bars_show(self):
        told = 0
        for thing in some_things():
            for model in GROWING:
                failing = [places for places in some_of(range(thing.many())) if holds_of(model, thing.left(places))]
                for places in failing:
                    found = bars(Asker(thing, made(model), LONG), places)
                    if found is not None:
                        told += 1
                        self.shows(thing, model, places, found, failing)
        self.assertGreater(told, 100)

    def shows(self, thing, model, places, found, failing):
        self.assertEqual(len(found), len(places))
        for one, other in combinations(found, 2):
            self.assertEqual(set(one) & set(other), set())
        for place, bar in zip(places, found):
            self.assertEqual(bar, sorted(set(bar)))
            self.assertEqual([other for other in places if other in bar], [place])
            beyond = [other for other in places_of(thing) if other not in bar]
            self.assertFalse(holds_of(model, thing.left(beyond)))
            for some in failing:
                self.assertTrue(set(some) & set(bar))
        for some in failing:
            self.assertGreaterEqual(len(some), len(places))
            if all(len(bar) == 1 for bar in found):
                self.assertEqual([place for place in some if place in places], places)

    def test_behind_shrinking(self):
        for at, thing in enumerate(some_things()):
            for other, model in enumerate(GROWING):
                if not holds_of(model, thing):
                    continue
                self.assertTrue(grows_of(model))
                failing = [places for places in some_of(range(thing.many())) if holds_of(model, thing.left(places))]
                for rules in lists_of_rules()[(at + other) % 16::16]:
                    asker = Asker(thing, made(model), LONG)
                    places = shrunk(asker, rules)[1]
                    found = bars(asker, places)
                    if found is not None:
                        self.shows(thing, model, places, found, failing)


if __name__ == "__main__":
    unittest.main()

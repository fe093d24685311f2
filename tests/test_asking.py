import unittest
from copy import deepcopy

from faultmodels import JOINTS, LEAVES, grows_of, holds_of, made
from samples import LONG, no_places_of_three, small_forests, small_rows, small_tables, some_of, things_of_three
from shrinkhouse.asking import Asker
from shrinkhouse.errors import NoPlace, Spent
from shrinkhouse.faults import Any, Before, Beside, Has, Many, Not, Under
from shrinkhouse.things import Forest, Row, Table

ROW = ["a", "b", "a", "b"]


class AskingTest(unittest.TestCase):
    def fails(self, asker, places, expected):
        with self.subTest(places=places):
            self.assertIs(asker.fails(places), expected)

    def told(self, asker, log):
        self.assertIs(type(asker.asked()), int)
        self.assertEqual(asker.asked(), len(log))
        self.assertIs(type(asker.log()), list)
        self.assertEqual(asker.log(), log)
        for question in asker.log():
            self.assertIs(type(question), tuple)
            self.assertIs(type(question[0]), list)
            self.assertIs(type(question[1]), bool)

    def refused(self, error, asker, places):
        with self.subTest(places=places), self.assertRaises(error) as caught:
            asker.fails(places)
        self.assertIs(type(caught.exception), error)


class AnswerTest(AskingTest):
    """Point 14."""

    def test_row(self):
        asker = Asker(Row(ROW), Has("b"), 100)
        self.fails(asker, [], False)
        self.fails(asker, [0, 1, 2, 3], True)
        self.fails(asker, [0, 2], False)
        self.fails(asker, [3], True)
        self.told(asker, [([], False), ([0, 1, 2, 3], True), ([0, 2], False), ([3], True)])

    def test_forest(self):
        asker = Asker(Forest([("a", 0), ("c", 1), ("b", 2)]), Under("a", "b"), 100)
        self.fails(asker, [0, 1, 2], True)
        self.fails(asker, [0, 2], True)
        self.fails(asker, [1, 2], False)
        self.told(asker, [([0, 1, 2], True), ([0, 2], True), ([1, 2], False)])

    def test_table(self):
        asker = Asker(Table([["a", "b"], ["c", "a"]]), Before("b", "a"), 100)
        self.fails(asker, [0, 1, 2, 3], True)
        self.fails(asker, [1, 2, 3], False)
        self.fails(asker, [0, 1, 3], True)
        self.fails(asker, [2, 3], False)
        self.assertEqual(asker.asked(), 4)

    def test_one_that_does_not_grow(self):
        asker = Asker(Row(["a", "c", "b"]), Beside("a", "b"), 100)
        self.fails(asker, [0, 1, 2], False)
        self.fails(asker, [0, 2], True)
        asker = Asker(Row(["a", "c", "b"]), Not(Has("c")), 100)
        self.fails(asker, [0, 1, 2], False)
        self.fails(asker, [0, 2], True)
        self.fails(asker, [], True)

    def test_the_same_places_are_one_question(self):
        asker = Asker(Row(ROW), Has("b"), 100)
        for turn in range(3):
            self.fails(asker, [0, 1], True)
            self.fails(asker, [0], False)
        self.told(asker, [([0, 1], True), ([0], False)])

    def test_places_that_leave_the_same_thing_are_one_question(self):
        asker = Asker(Row(ROW), Has("b"), 100)
        for places in [[2, 3], [0, 1], [0, 3], [2, 3]]:
            self.fails(asker, places, True)
        for places in [[2], [0]]:
            self.fails(asker, places, False)
        self.told(asker, [([2, 3], True), ([2], False)])
        forest = Asker(Forest([("a", 0), ("b", 1), ("b", 1), ("a", 0), ("b", 0)]), Under("a", "b"), 100)
        for places in [[0, 2], [0, 1]]:
            self.fails(forest, places, True)
        self.fails(forest, [3, 4], False)
        self.told(forest, [([0, 2], True), ([3, 4], False)])
        table = Asker(Table([["a", "a"], ["a", "a"]]), Many(2, "a"), 100)
        for places in [[1, 2, 3], [0, 2, 3]]:
            self.fails(table, places, True)
        for places in [[0, 1, 3], [0, 1, 2]]:
            self.fails(table, places, True)
        for places in [[0, 3], [1, 3], [1, 2]]:
            self.fails(table, places, False)
        self.told(table, [([1, 2, 3], True), ([0, 1, 3], True), ([0, 3], False)])

    def test_unlike_things_without_marks_are_unlike_questions(self):
        asker = Asker(Table([["a", "b"], ["a", "b"]]), Has("a"), 100)
        log = []
        for places in [[], [0], [0, 1], [2], [2, 3]]:
            self.fails(asker, places, False)
            log.append((places, False))
        for places in [[1], [3], [2, 3], [0, 1], []]:
            self.fails(asker, places, False)
        self.told(asker, log)

    def test_unlike_forests_of_the_same_marks_are_unlike_questions(self):
        asker = Asker(Forest([("a", 0), ("b", 1), ("a", 0), ("b", 0)]), Under("a", "b"), 100)
        self.fails(asker, [0, 1], True)
        self.fails(asker, [0, 3], False)
        self.fails(asker, [2, 3], False)
        self.told(asker, [([0, 1], True), ([0, 3], False)])

    def test_every_list_of_places_of_small_things(self):
        models = LEAVES[:17:3] + JOINTS[2::4]
        for thing in list(small_rows()) + list(small_forests())[::5] + list(small_tables())[::5]:
            for model in models:
                asker = Asker(thing, made(model), LONG)
                expected = []
                forms = []
                for places in list(some_of(range(thing.many()))) * 2:
                    rest = thing.left(places)
                    self.assertIs(asker.fails(places), holds_of(model, rest))
                    if rest.form() not in forms:
                        forms.append(rest.form())
                        expected.append((places, holds_of(model, rest)))
                self.assertEqual(asker.log(), expected)
                self.assertEqual(asker.asked(), len(forms))

    def test_askers_are_apart(self):
        row = Row(ROW)
        first = Asker(row, Has("b"), 1)
        second = Asker(row, Not(Has("b")), 1)
        self.fails(first, [1], True)
        self.told(second, [])
        self.fails(second, [1], False)
        self.fails(second, [3], False)
        self.told(first, [([1], True)])
        self.told(second, [([1], False)])


class CountTest(AskingTest):
    """Points 15 and 3."""

    def test_none_may_be_asked(self):
        for thing in [Row(ROW), Row([]), Forest([("a", 0)]), Table([["a"]])]:
            asker = Asker(thing, Has("a"), 0)
            for turn in range(3):
                self.refused(Spent, asker, [])
                self.refused(Spent, asker, list(range(thing.many())))
            self.told(asker, [])

    def test_one_may_be_asked(self):
        asker = Asker(Row(ROW), Has("b"), 1)
        self.told(asker, [])
        self.fails(asker, [0, 1], True)
        for places in [[], [0], [1], [0, 1, 2, 3]]:
            self.refused(Spent, asker, places)
            self.told(asker, [([0, 1], True)])
        for places in [[0, 1], [0, 3], [2, 3]]:
            self.fails(asker, places, True)
        self.told(asker, [([0, 1], True)])

    def test_more_may_be_asked(self):
        for most in [2, 3, 5, 16]:
            asker = Asker(Row(["a", "b", "c", "d"]), Has("b"), most)
            log = []
            for places in some_of(range(4)):
                if len(log) < most:
                    self.fails(asker, places, 1 in places)
                    log.append((places, 1 in places))
                else:
                    self.refused(Spent, asker, places)
                self.told(asker, log)
            self.assertEqual(len(log), most)

    def test_what_is_remembered_is_answered_still(self):
        asker = Asker(Row(ROW), Any([Has("b"), Many(2, "a")]), 3)
        log = [([1], True), ([0], False), ([0, 2], True)]
        for places, fails in log:
            self.fails(asker, places, fails)
        for turn in range(2):
            for places, fails in [([3], True), ([2], False), ([0, 2], True), ([0], False), ([1], True)]:
                self.fails(asker, places, fails)
                self.refused(Spent, asker, [])
                self.refused(Spent, asker, [0, 1, 2, 3])
                self.told(asker, log)

    def test_what_was_refused_is_not_remembered(self):
        asker = Asker(Row(ROW), Has("b"), 1)
        self.fails(asker, [0], False)
        for turn in range(3):
            self.refused(Spent, asker, [1])
            self.refused(Spent, asker, [3])
        self.told(asker, [([0], False)])

    def test_very_many_may_be_asked(self):
        asker = Asker(Row(ROW), Has("b"), LONG)
        for places in some_of(range(4)):
            self.fails(asker, places, 1 in places or 3 in places)

    def test_no_two_questions_of_the_same_thing(self):
        for most in [0, 1, 4, 7, 100]:
            for thing in [Row(ROW), Forest([("a", 0), ("a", 1), ("b", 1), ("a", 0)]), Table([["a", "b"], ["a", "b"]])]:
                asker = Asker(thing, Before("a", "b"), most)
                for places in some_of(range(4)):
                    try:
                        asker.fails(places)
                    except Spent:
                        self.assertEqual(asker.asked(), most)
                self.assertLessEqual(asker.asked(), most)
                forms = [thing.left(places).form() for places, fails in asker.log()]
                self.assertEqual(len(forms), asker.asked())
                self.assertEqual(len(set(forms)), len(forms))


class NoPlaceTest(AskingTest):
    """Points 15 and 6."""

    def test_neither_counted_nor_logged(self):
        for thing in things_of_three():
            asker = Asker(thing, Has("a"), 2)
            for places in no_places_of_three():
                self.refused(NoPlace, asker, places)
            self.told(asker, [])
            fails = asker.fails([0, 1, 2])
            for places in no_places_of_three():
                self.refused(NoPlace, asker, places)
            self.told(asker, [([0, 1, 2], fails)])

    def test_ahead_of_spent(self):
        for thing in things_of_three():
            none = Asker(thing, Has("a"), 0)
            one = Asker(thing, Has("a"), 1)
            fails = one.fails([0, 1, 2])
            for places in no_places_of_three():
                self.refused(NoPlace, none, places)
                self.refused(NoPlace, one, places)
            self.refused(Spent, none, [0])
            self.refused(Spent, one, [0])
            self.told(none, [])
            self.told(one, [([0, 1, 2], fails)])

    def test_of_a_thing_without_places(self):
        for thing in [Row([]), Forest([]), Table([]), Table([["a"]]).left([])]:
            asker = Asker(thing, Not(Has("a")), 1)
            for places in [[0], [1], [-1], [False], [None], [[]], None, (), 0, "", True]:
                self.refused(NoPlace, asker, places)
            self.fails(asker, [], True)
            self.told(asker, [([], True)])

    def test_good_behind_a_refusal(self):
        asker = Asker(Row(ROW), Has("b"), 2)
        self.refused(NoPlace, asker, [1, 0])
        self.fails(asker, [0, 1], True)
        self.refused(NoPlace, asker, [True])
        self.fails(asker, [0], False)
        self.refused(Spent, asker, [])
        self.refused(NoPlace, asker, [4])
        self.fails(asker, [2, 3], True)
        self.told(asker, [([0, 1], True), ([0], False)])


class LogTest(AskingTest):
    """Points 16 and 2."""

    def asker(self):
        asker = Asker(Row(ROW), Has("b"), 3)
        for places in [[3], [0, 2], [0, 1, 2, 3], [1]]:
            asker.fails(places)
        return asker

    LOG = [([3], True), ([0, 2], False), ([0, 1, 2, 3], True)]

    def test_in_order(self):
        self.told(self.asker(), self.LOG)
        self.told(Asker(Row(ROW), Has("b"), 3), [])

    def test_changing_what_was_told_changes_nothing(self):
        asker = self.asker()
        kept = asker.log()
        told = asker.log()
        self.assertIsNot(told, kept)
        for places, fails in told:
            places.append(77)
            places.reverse()
        told.reverse()
        told.append("spoilt")
        self.told(asker, self.LOG)
        told.clear()
        self.told(asker, self.LOG)
        self.assertEqual(kept, self.LOG)
        self.fails(asker, [1], True)
        self.fails(asker, [0, 2], False)

    def test_what_was_told_stays_when_more_is_asked(self):
        asker = Asker(Row(ROW), Has("b"), 9)
        asker.fails([0])
        told = asker.log()
        asker.fails([1])
        self.assertEqual(told, [([0], False)])

    def test_changing_the_places_changes_nothing(self):
        asker = Asker(Row(ROW), Has("b"), 3)
        handed_in = [[3], [0, 2], [0, 1, 2, 3], [1]]
        for places in handed_in:
            asker.fails(places)
        for places in handed_in:
            places.append(77)
            places.reverse()
            self.told(asker, self.LOG)
            places.clear()
            self.told(asker, self.LOG)

    def test_one_list_handed_in_again_and_again(self):
        asker = Asker(Row(["a", "b", "c"]), Has("b"), 9)
        places = [0, 1, 2]
        log = []
        while places:
            fails = asker.fails(places)
            self.assertIs(fails, 1 in places)
            log.append((list(places), fails))
            places.pop()
        self.told(asker, log)

    def test_the_places_are_as_they_were(self):
        asker = Asker(Row(ROW), Has("b"), 1)
        for places in [[0, 1], [2, 3], [0], [1, 0], [0, 0], [0, [1]], [99], [None, "a"]]:
            before = deepcopy(places)
            try:
                asker.fails(places)
            except (NoPlace, Spent):
                pass
            self.assertEqual(places, before)

    def test_changing_what_made_the_thing_and_the_fault(self):
        marks = list(ROW)
        parts = [Has("b"), Many(2, "a")]
        asker = Asker(Row(marks), Any(parts), 9)
        marks.clear()
        parts[0] = Has("x")
        self.fails(asker, [1], True)
        self.fails(asker, [0, 1, 2, 3], True)


class OfTheAskerTest(AskingTest):
    """The interface: thing and grows."""

    def test_thing(self):
        for thing in [Row(ROW), Forest([("a", 0), ("b", 1)]), Table([["a", "b"]]), Table([["a", "b"]]).left([1, 2])]:
            before = thing.form()
            asker = Asker(thing, Has("a"), 9)
            self.assertIs(type(asker.thing()), type(thing))
            self.assertEqual(asker.thing().form(), before)
            asker.fails([0])
            self.assertEqual(asker.thing().form(), before)
            self.assertEqual(asker.thing().many(), thing.many())

    def test_grows(self):
        for model in LEAVES + JOINTS:
            asker = Asker(Row(ROW), made(model), 0)
            self.assertIs(asker.grows(), grows_of(model))
            self.told(asker, [])


if __name__ == "__main__":
    unittest.main()

import unittest

from faultmodels import DEEP, JOINTS, LEAVES, depth_of, grows_of, holds_of, made, marks_of, nested, of_faults, text_of
from samples import LONG, small_forests, small_rows, small_tables, small_things, some_of
from shrinkhouse.faults import All, Any, Before, Beside, Fault, Has, Many, Not, Under
from shrinkhouse.things import Forest, Row, Table

KINDS = [Has, Many, Before, Under, Beside, All, Any, Not]

ROW = Row(["a", "b", "a", "c"])
FOREST = Forest([("a", 0), ("b", 1), ("a", 2), ("c", 0)])
TABLE = Table([["a", "b"], ["c", "a"]])
EMPTY = [Row([]), Forest([]), Table([]), Table([[], []]), Table([["a", "b"]]).left([1, 2])]


class FaultTest(unittest.TestCase):
    def holds(self, fault, thing, expected):
        with self.subTest(fault=fault.shown(), thing=thing.form()):
            self.assertIs(fault.holds(thing), expected)


class KindsTest(FaultTest):
    """Point 10 and the interface."""

    def test_each_stands_under_fault(self):
        for kind in KINDS:
            self.assertTrue(issubclass(kind, Fault))
            for other in KINDS:
                self.assertEqual(issubclass(kind, other), kind is other)


class MarksThereTest(FaultTest):
    """Point 10: Has and Many."""

    def test_has(self):
        for thing in [ROW, FOREST, TABLE]:
            for mark, expected in [("a", True), ("b", True), ("c", True), ("x", False), ("ab", False), ("aa", False)]:
                self.holds(Has(mark), thing, expected)
        for thing in EMPTY:
            self.holds(Has("a"), thing, False)

    def test_many(self):
        for thing in [ROW, FOREST, TABLE]:
            for number, mark, expected in [
                (1, "a", True), (2, "a", True), (3, "a", False), (1, "b", True), (2, "b", False), (1, "x", False),
                (LONG, "a", False), (10 ** 60 - 1, "a", False), (10 ** 9, "b", False),
            ]:
                self.holds(Many(number, mark), thing, expected)
        for thing in EMPTY:
            self.holds(Many(1, "a"), thing, False)

    def test_many_of_the_greatest_things(self):
        for thing, many in [
            (Row(["a"] * 40), 40), (Forest([("a", at % 13) for at in range(40)]), 40),
            (Table([["a"] * 12 for at in range(12)]), 144),
        ]:
            for number in [1, many - 1, many]:
                self.holds(Many(number, "a"), thing, True)
            for number in [many + 1, many + 2, LONG]:
                self.holds(Many(number, "a"), thing, False)

    def test_many_of_every_small_thing(self):
        for thing in small_things():
            for mark in "abx":
                many = thing.spots().count(mark)
                for number in range(1, many + 3):
                    self.holds(Many(number, mark), thing, number <= many)


class PairsTest(FaultTest):
    """Point 10: Before, Under and Beside, as told in 8."""

    def pairs(self, kind, thing, yes):
        for one in "abcx":
            for other in "abcx":
                self.holds(kind(one, other), thing, one + other in yes)

    def test_before(self):
        self.pairs(Before, ROW, ["ab", "aa", "ac", "ba", "bc"])
        self.pairs(Before, FOREST, ["ab", "aa", "ac", "ba", "bc"])
        self.pairs(Before, TABLE, ["ab", "ac", "aa", "bc", "ba", "ca"])

    def test_under(self):
        self.pairs(Under, ROW, [])
        self.pairs(Under, FOREST, ["ab", "aa", "ba"])
        self.pairs(Under, TABLE, ["ac", "ba"])

    def test_beside(self):
        self.pairs(Beside, ROW, ["ab", "ba", "ac"])
        self.pairs(Beside, FOREST, ["ac"])
        self.pairs(Beside, TABLE, ["ab", "ca"])

    def test_nothing_there(self):
        for thing in EMPTY:
            for kind in [Before, Under, Beside]:
                self.pairs(kind, thing, [])

    def test_every_small_thing(self):
        for thing in small_things():
            for one in "ab":
                for other in "ab":
                    self.assertIs(Before(one, other).holds(thing), thing.is_before(one, other))
                    self.assertIs(Under(one, other).holds(thing), thing.is_under(one, other))
                    self.assertIs(Beside(one, other).holds(thing), thing.is_beside(one, other))


class JointsTest(FaultTest):
    """Point 10: All, Any and Not."""

    def test_two_to_six_parts(self):
        yes = Has("a")
        no = Has("x")
        for thing in [ROW, FOREST, TABLE]:
            for many in range(2, 7):
                self.holds(All([yes] * many), thing, True)
                self.holds(All([no] * many), thing, False)
                self.holds(Any([yes] * many), thing, True)
                self.holds(Any([no] * many), thing, False)
                for at in range(many):
                    self.holds(All([yes] * at + [no] + [yes] * (many - at - 1)), thing, False)
                    self.holds(Any([no] * at + [yes] + [no] * (many - at - 1)), thing, True)

    def test_not(self):
        for thing in [ROW, FOREST, TABLE]:
            self.holds(Not(Has("a")), thing, False)
            self.holds(Not(Has("x")), thing, True)
            self.holds(Not(Not(Has("a"))), thing, True)
            self.holds(Not(Not(Has("x"))), thing, False)
            self.holds(Not(All([Has("a"), Has("x")])), thing, True)
            self.holds(Not(Any([Has("a"), Has("x")])), thing, False)
        for thing in EMPTY:
            self.holds(Not(Has("a")), thing, True)

    def test_up_to_eight_deep(self):
        for deep in range(1, 9):
            self.holds(made(nested(deep)), ROW, deep % 2 == 1)
            self.holds(made(nested(deep)), Row([]), deep % 2 == 0)
        self.assertEqual({depth_of(model) for model in DEEP}, set(range(1, 9)))

    def test_one_fault_as_several_parts(self):
        part = Any([Has("a"), Has("x")])
        self.holds(All([part, part, Not(Not(part))]), ROW, True)
        self.assertEqual(All([part, part]).shown(), "all(any(has(a),has(x)),any(has(a),has(x)))")

    def test_by_every_small_thing(self):
        for model in JOINTS + DEEP + [of_faults(60)]:
            fault = made(model)
            for thing in small_things():
                self.assertIs(fault.holds(thing), holds_of(model, thing), (model, thing.form()))


class ToldTest(FaultTest):
    """Point 11: marks and text."""

    def test_marks(self):
        for fault, marks in [
            (Has("b"), ["b"]), (Many(3, "b"), ["b"]),
            (Before("b", "a"), ["a", "b"]), (Before("a", "b"), ["a", "b"]), (Before("a", "a"), ["a"]),
            (Under("b", "a"), ["a", "b"]), (Under("b", "b"), ["b"]),
            (Beside("zz", "z"), ["z", "zz"]), (Beside("c", "c"), ["c"]),
            (All([Has("b"), Has("a"), Has("b")]), ["a", "b"]),
            (Any([Before("d", "c"), Not(Has("b")), Many(2, "a")]), ["a", "b", "c", "d"]),
            (Not(Under("b", "a")), ["a", "b"]),
            (All([Any([Has("ab"), Has("b")]), Not(Has("a")), Has("b")]), ["a", "ab", "b"]),
        ]:
            with self.subTest(fault=fault.shown()):
                self.assertIs(type(fault.marks()), list)
                self.assertEqual(fault.marks(), marks)

    def test_shown(self):
        for fault, text in [
            (Has("a"), "has(a)"), (Has("abcdefgh"), "has(abcdefgh)"), (Has("has"), "has(has)"),
            (Many(3, "a"), "many(3,a)"), (Many(1, "b"), "many(1,b)"), (Many(10, "b"), "many(10,b)"),
            (Many(999999999, "b"), "many(999999999,b)"), (Many(1234567890, "b"), "many(1234567890,b)"),
            (Many(LONG, "b"), "many(1" + "0" * 58 + "7,b)"),
            (Before("a", "b"), "before(a,b)"), (Before("b", "a"), "before(b,a)"),
            (Under("a", "b"), "under(a,b)"), (Under("b", "b"), "under(b,b)"),
            (Beside("b", "a"), "beside(b,a)"),
            (All([Has("b"), Has("a")]), "all(has(b),has(a))"),
            (Any([Has("a"), Many(2, "b"), Has("a")]), "any(has(a),many(2,b),has(a))"),
            (Not(Has("a")), "not(has(a))"), (Not(Not(Before("a", "b"))), "not(not(before(a,b)))"),
            (All([Has("a")] * 6), "all(has(a),has(a),has(a),has(a),has(a),has(a))"),
            (Any([All([Has("a"), Has("b")]), Not(Beside("c", "d"))]), "any(all(has(a),has(b)),not(beside(c,d)))"),
        ]:
            with self.subTest(text=text):
                self.assertIs(type(fault.shown()), str)
                self.assertEqual(fault.shown(), text)

    def test_of_many_faults(self):
        for model in LEAVES + JOINTS + DEEP + [of_faults(60)]:
            self.assertEqual(made(model).marks(), marks_of(model))
            self.assertEqual(made(model).shown(), text_of(model))


class GrowsTest(FaultTest):
    """Point 12."""

    def test_each_kind(self):
        for fault, expected in [
            (Has("a"), True), (Many(2, "a"), True), (Before("a", "b"), True), (Under("a", "b"), True),
            (Beside("a", "b"), False), (Not(Has("a")), False), (Not(Not(Has("a"))), False),
            (All([Has("a"), Under("a", "b")]), True), (Any([Has("a"), Before("a", "b")]), True),
            (Not(Beside("a", "b")), False),
        ]:
            with self.subTest(fault=fault.shown()):
                self.assertIs(fault.grows(), expected)

    def test_one_that_does_not_at_each_part(self):
        for kind in [All, Any]:
            for many in range(2, 7):
                self.assertIs(kind([Has("a")] * many).grows(), True)
                for at in range(many):
                    for wrong in [Not(Has("a")), Beside("a", "b"), All([Has("a"), Beside("a", "b")])]:
                        parts = [Has("a")] * many
                        parts[at] = wrong
                        self.assertIs(kind(parts).grows(), False)

    def test_at_each_depth(self):
        for deep in range(1, 8):
            for inmost in [Has("a"), Not(Has("a")), Beside("a", "b")]:
                for kinds in [(All, All), (Any, Any), (All, Any)]:
                    fault = inmost
                    for at in range(deep):
                        parts = [fault, Has("b")] if at % 2 else [Has("b"), fault]
                        fault = kinds[at % 2](parts)
                    self.assertIs(fault.grows(), isinstance(inmost, Has))

    def test_of_many_faults(self):
        for model in LEAVES + JOINTS + DEEP + [of_faults(43), of_faults(60)]:
            self.assertIs(made(model).grows(), grows_of(model))

    def growing(self, fault, thing):
        """What holds of what some places leave holds of what these and one more leave, and so of more."""
        held = {tuple(some): fault.holds(thing.left(some)) for some in some_of(range(thing.many()))}
        for some, holds in held.items():
            for place in range(thing.many()):
                if holds and place not in some:
                    self.assertTrue(held[tuple(sorted(some + (place,)))], (fault.shown(), thing.form(), some, place))

    def test_holds_of_more(self):
        faults = [made(model) for model in LEAVES[:17] + JOINTS + DEEP]
        faults = [fault for fault in faults if fault.grows()]
        self.assertGreater(len(faults), 20)
        for thing in list(small_rows()) + list(small_forests())[::2] + list(small_tables())[::3]:
            for fault in faults:
                self.growing(fault, thing)

    def test_why_a_beside_and_a_not_do_not(self):
        row = Row(["a", "c", "b"])
        self.assertTrue(Beside("a", "b").holds(row.left([0, 2])))
        self.assertFalse(Beside("a", "b").holds(row))
        self.assertTrue(Not(Has("c")).holds(row.left([0, 2])))
        self.assertFalse(Not(Has("c")).holds(row))


class KeptTest(FaultTest):
    """Point 2."""

    def told(self, fault):
        return [fault.marks(), fault.shown(), fault.grows()] + [fault.holds(thing) for thing in small_things()]

    def test_parts_are_as_they_were(self):
        for kind in [All, Any]:
            parts = [Has("b"), Many(2, "a"), Not(Has("c"))]
            before = list(parts)
            self.told(kind(parts))
            self.assertEqual(len(parts), 3)
            for part, was in zip(parts, before):
                self.assertIs(part, was)

    def test_changing_the_parts_changes_no_fault(self):
        for kind in [All, Any]:
            parts = [Has("b"), Many(2, "a")]
            fault = kind(parts)
            around = Not(fault)
            before = self.told(fault), self.told(around)
            parts.append(Not(Has("a")))
            self.assertEqual((self.told(fault), self.told(around)), before)
            parts[0] = Has("x")
            self.assertEqual((self.told(fault), self.told(around)), before)
            parts.clear()
            self.assertEqual((self.told(fault), self.told(around)), before)

    def test_marks_are_the_askers_own(self):
        for model in LEAVES + JOINTS:
            fault = made(model)
            around = Not(All([fault, fault]))
            told = fault.marks()
            kept = list(told)
            self.assertIsNot(fault.marks(), told)
            for other in [fault.marks(), around.marks()]:
                other.append("spoilt")
                other[0] = "spoilt"
                self.assertEqual(fault.marks(), kept)
                self.assertEqual(around.marks(), kept)
            self.assertEqual(told, kept)

    def test_holding_changes_no_thing(self):
        for thing in [ROW, FOREST, TABLE]:
            before = thing.form(), thing.spots()
            for model in LEAVES + JOINTS:
                made(model).holds(thing)
            self.assertEqual((thing.form(), thing.spots()), before)


if __name__ == "__main__":
    unittest.main()

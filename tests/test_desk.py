import unittest

from samples import LONG, RULES, SIGNS, lists_of_rules, no_rules
from shrinkhouse.desk import Desk
from shrinkhouse.errors import Healthy, NoFault, NoRow, NoRule, NoText, Spent

ASKING = ["shrink", "left", "asked", "needed", "bars", "grows"]


class DeskTest(unittest.TestCase):
    def desk(self, *rows):
        """A new desk, told these rows."""
        desk = Desk()
        for row in rows:
            self.says(desk, row, "ok")
        return desk

    def says(self, desk, row, expected):
        with self.subTest(row=row):
            answer = desk.say(row)
            self.assertIs(type(answer), str)
            self.assertEqual(answer, expected)

    def all_said(self, desk, *rows_and_answers):
        for row, answer in zip(rows_and_answers[::2], rows_and_answers[1::2]):
            self.says(desk, row, answer)

    def refused(self, error, desk, row):
        with self.subTest(row=row), self.assertRaises(error) as caught:
            desk.say(row)
        self.assertIs(type(caught.exception), error)


class NewDeskTest(DeskTest):
    """Point 27: what a new desk has."""

    def test_nothing_was_asked_or_shrunk(self):
        self.all_said(Desk(), "left", "none", "bars", "none", "asked", "0", "grows", "yes", "asked", "0")

    def test_the_row_without_marks(self):
        self.refused(Healthy, Desk(), "shrink")
        self.refused(Healthy, Desk(), "needed")
        for fault in ["not(has(a))", "not(has(b))"]:
            desk = self.desk("fault " + fault)
            self.all_said(desk, "shrink", "small row", "left", "row", "needed", "none", "bars", "none", "asked", "1")

    def test_the_fault(self):
        desk = self.desk("thing row b a c")
        self.all_said(desk, "shrink", "small row a", "left", "row a", "grows", "yes")
        self.refused(Healthy, self.desk("thing row b c"), "shrink")

    def test_the_rules(self):
        # By halves all, none, the last two and the last one are asked of; by ones ahead it would be one more.
        desk = self.desk("thing row a b a b", "fault has(b)")
        self.all_said(desk, "shrink", "small row b", "asked", "4", "rules ones halves", "ok", "fault has(b)", "ok")
        self.all_said(desk, "shrink", "small row b", "asked", "5")
        # Trees would take out the a with the b, marks both of the b.
        for thing, fault, rule, answer in [
            ("forest c,a(b)", "all(has(c),any(under(a,b),not(any(has(a),has(b)))))", "trees", "small forest c"),
            ("row c b b", "all(has(c),any(many(2,b),not(has(b))))", "marks", "small row c"),
        ]:
            desk = self.desk("thing " + thing, "fault " + fault)
            self.all_said(desk, "shrink", "small " + thing, "rules " + rule, "ok", "shrink", answer)

    def test_most(self):
        desk = self.desk("thing row" + " a b" * 20, "fault many(20,b)")
        self.assertEqual(desk.say("shrink"), "small row" + " b" * 20)


class ShrinkTest(DeskTest):
    """Point 27: shrink, left, asked."""

    def test_each_kind(self):
        for thing, fault, rules, answer, asked in [
            ("row a b a b", "has(b)", "halves ones", "small row b", "4"),
            ("row a b c", "has(c)", "ones", "small row c", "4"),
            ("row a b a c b", "many(2,a)", "marks", "small row a a", "6"),
            ("forest a(b(c),b),a(c)", "under(a,c)", "trees", "small forest a(c)", "4"),
            ("forest a(b(c),b),a(c)", "under(a,b)", "ones", "small forest a(b)", "13"),
            ("table a b / b a / c c", "under(a,c)", "ones", "small table a / c", "8"),
            ("table a b / b a / c c", "under(a,c)", "marks", "small table a b / b a / c c", "3"),
            ("table a b / c d", "not(has(x))", "halves", "small table", "2"),
            ("table a / b", "not(has(x))", "marks", "small table", "3"),
            ("table - / -", "not(has(x))", "marks", "small table - / -", "1"),
            ("forest", "not(has(x))", "trees marks", "small forest", "1"),
        ]:
            desk = self.desk("thing " + thing, "fault " + fault, "rules " + rules)
            self.says(desk, "asked", "0")
            for turn in range(2):
                self.all_said(desk, "shrink", answer, "asked", asked, "left", answer.partition(" ")[2])

    def test_spent(self):
        for most, answer, asked in [
            (1, "spent row a b a b", "1"), (2, "spent row a b a b", "2"), (3, "spent row a b", "3"),
            (4, "small row b", "4"), (5, "small row b", "4"), (999999999, "small row b", "4"),
        ]:
            desk = self.desk("thing row a b a b", "fault has(b)", f"most {most}")
            for turn in range(2):
                self.all_said(desk, "shrink", answer, "asked", asked, "left", answer.partition(" ")[2])

    def test_none_may_be_asked(self):
        desk = self.desk("thing row a", "most 0")
        for row in ["shrink", "needed"]:
            self.refused(Spent, desk, row)
        self.all_said(desk, "asked", "0", "left", "none", "bars", "none", "grows", "yes")

    def test_healthy(self):
        desk = self.desk("thing row a b", "fault has(x)")
        for turn in range(2):
            self.refused(Healthy, desk, "shrink")
            self.all_said(desk, "asked", "1", "left", "none", "bars", "none")

    def test_all_places_are_remembered(self):
        desk = self.desk("thing row a b a", "fault has(a)", "most 1")
        self.refused(Spent, desk, "needed")
        self.all_said(desk, "asked", "1", "left", "none", "shrink", "spent row a b a", "left", "row a b a")
        self.says(desk, "asked", "1")


class NeededTest(DeskTest):
    """Point 27: needed, with 22."""

    def test_answers(self):
        for thing, fault, answer, asked in [
            ("row a b c", "all(has(a),has(c))", "0 2", "4"),
            ("row a b", "before(a,b)", "0 1", "3"),
            ("row a b", "has(b)", "1", "3"),
            ("row a b", "any(has(a),has(b))", "none", "3"),
            ("row", "not(has(a))", "none", "1"),
            ("row a b c", "not(beside(a,c))", "1", "4"),
            ("table a b / b a / c c", "under(a,c)", "2", "6"),
            ("forest a(c(b))", "under(a,b)", "0 2", "4"),
            ("row b b b b b b b b b b a", "has(a)", "10", "3"),
            ("row a b c d e f g h i j k l", "all(has(b),has(k),has(l))", "1 10 11", "13"),
        ]:
            desk = self.desk("thing " + thing, "fault " + fault)
            for turn in range(2):
                self.all_said(desk, "needed", answer, "asked", asked, "left", "none")

    def test_refused(self):
        desk = self.desk("thing row a b c", "fault all(has(a),has(c))", "most 3")
        for turn in range(2):
            self.refused(Spent, desk, "needed")
            self.says(desk, "asked", "3")
        desk = self.desk("thing row a b c", "fault has(x)")
        for turn in range(2):
            self.refused(Healthy, desk, "needed")
            self.says(desk, "asked", "1")

    def test_of_the_thing_and_not_of_what_is_left(self):
        desk = self.desk("thing row a b a b", "fault has(b)")
        self.all_said(desk, "shrink", "small row b", "needed", "none")


class BarsTest(DeskTest):
    """Point 27: bars, with 23."""

    def test_answers(self):
        for thing, fault, rules, answer in [
            ("row a b a b", "has(b)", "halves ones", "1 3"),
            ("row a b c", "has(c)", "ones", "2"),
            ("row a b a c b", "many(2,a)", "marks", "0 / 2"),
            ("row a b a c b", "before(a,b)", "marks ones", "0 2 / 1 4"),
            ("forest a(b(c),b),a(c)", "under(a,c)", "trees", "2 4 / 0 5"),
            ("table a b / b a / c c", "under(a,c)", "ones", "1 3 / 2 / 0 4"),
            ("row a b c d", "any(all(has(a),has(b)),all(has(c),has(d)))", "ones", "1 2 / 0 3"),
            # Where None is told: by the places, or by a fault that does not grow.
            ("table a b / b a / c c", "under(a,c)", "marks", "none"),
            ("row a b c", "any(all(has(a),has(b)),all(has(b),has(c)),all(has(a),has(c)))", "ones", "none"),
            ("row a b", "beside(a,b)", "ones", "none"),
            ("row a b", "not(has(c))", "marks", "none"),
            # Where no places are left.
            ("row", "not(has(a))", "ones", "none"),
        ]:
            desk = self.desk("thing " + thing, "fault " + fault, "rules " + rules)
            self.all_said(desk, "bars", "none", "asked", "0")
            desk.say("shrink")
            asked = desk.say("asked")
            left = desk.say("left")
            self.all_said(desk, "bars", answer, "left", left, "bars", answer)
            if answer == "none" and desk.say("grows") == "no":
                self.says(desk, "asked", asked)

    def test_spent(self):
        for most in [4, 5]:
            desk = self.desk("thing row a b a b", "fault has(b)", f"most {most}")
            self.says(desk, "shrink", "small row b")
            for turn in range(2):
                self.refused(Spent, desk, "bars")
                self.all_said(desk, "asked", str(most), "left", "row b", "shrink", "small row b")
        desk = self.desk("thing row a b a b", "fault has(b)", "most 6")
        self.all_said(desk, "shrink", "small row b", "bars", "1 3", "asked", "6")

    def test_behind_a_shrink_that_was_spent(self):
        desk = self.desk("thing row b a", "fault has(b)", "rules ones", "most 2")
        self.says(desk, "shrink", "spent row b a")
        self.refused(Spent, desk, "bars")
        # The b alone was asked of ahead: so that the place of the b is no bar is known.
        desk = self.desk("thing row a b", "fault has(b)", "rules ones", "most 2")
        self.all_said(desk, "shrink", "spent row b", "left", "row b")
        self.refused(Spent, desk, "bars")

    def test_for_the_last_shrinking(self):
        desk = self.desk("thing row a b c d", "fault any(all(has(a),has(b)),all(has(c),has(d)))", "rules ones")
        self.all_said(desk, "shrink", "small row c d", "bars", "1 2 / 0 3", "rules halves", "ok", "bars", "1 2 / 0 3")


class RowsTest(DeskTest):
    """Point 27: which rows are taken."""

    def test_ok(self):
        desk = Desk()
        for row in [
            "thing row", "thing row a", "thing forest", "thing forest a(b,c(d)),e", "thing table", "thing table - / -",
            "thing table a b / c d", "fault has(a)", "fault all(has(a),not(beside(a,b)))", "fault many(999999999,a)",
            "most 0", "most 1", "most 9", "most 10", "most 10000", "most 123456789", "most 999999999", "most 100000000",
        ] + ["rules " + " ".join(rules) for rules in lists_of_rules()]:
            self.says(desk, row, "ok")

    def test_no_text(self):
        desk = Desk()
        for row in [
            None, True, False, 0, 1, -1, LONG, -LONG, [], (), ["shrink"], ("shrink",), ["thing", "row"], [["left"]],
            [[[["left"]]]], ["most", 1], ("rules", ["ones"]),
        ]:
            self.refused(NoRow, desk, row)

    def test_other_first_words(self):
        desk = Desk()
        for row in [
            "", " ", "  ", "\n", "\t", "a", "ok", "none", "row", "row a", "has(a)", "halves", "0", "1", "things row",
            "thin row", "faults has(a)", "faul has(a)", "rule ones", "ruless ones", "mos 1", "mosts 1", "shrinks",
            "shrin", "lef", "lefts", "ask", "need", "need ed", "bar", "grow", "help", "quit", "exit", "shrunk",
            "bound", "log", "fails", "fails 0",
        ]:
            self.refused(NoRow, desk, row)
        for word in ["thing row", "fault has(a)", "rules ones", "most 1"] + ASKING:
            for row in [word.upper(), word.capitalize(), " " + word, "  " + word, "\n" + word, "\t" + word,
                        "a " + word]:
                self.refused(NoRow, desk, row)
        self.says(desk, "asked", "0")

    def test_words_too_few(self):
        desk = Desk()
        for row in ["thing", "fault", "rules", "most"]:
            self.refused(NoRow, desk, row)

    def test_words_too_many(self):
        desk = Desk()
        for word in ASKING:
            for more in [" ", "  ", " a", " 0", " row", " " + word, " ones", " has(a)", "\n", "\t", " \n", "\n "]:
                self.refused(NoRow, desk, word + more)
        for row in ["fault has(a) has(b)", "fault has(a) ", "fault  has(a)", "fault  ", "fault has(a)  ", "fault a b",
                    "fault all(has(a), has(b))", "fault has(a) \n", "fault  has(a) "]:
            self.refused(NoRow, desk, row)
        for row in ["most 1 2", "most 1 ", "most  1", "most  ", "most 1 000", "most 0 0"]:
            self.refused(NoRow, desk, row)
        self.says(desk, "asked", "0")

    def test_numbers(self):
        desk = Desk()
        for number in [
            "", "00", "01", "007", "000000000", "0000000001", "1000000000", "1234567890", "9999999999", "0123456789",
            "+1", "-1", "+0", "-0", "1.0", "1.", ".1", "1e3", "1_000", "1,000", "0x10", "x", "a", "one", "none",
            "None", "True", "1a", "a1", "1\n", "\n1", "1\t", "\t1", "(1)", "1/2", "--1", "9" * 60, "1" * 1000,
            "0" * 10, "!", "~", "'1'",
        ]:
            self.refused(NoRow, desk, "most " + number)
        for sign in SIGNS:
            if sign not in "0123456789":
                for number in [sign, "1" + sign, sign + "1", "1" + sign + "1"]:
                    self.refused(NoRow, desk, "most " + number)
        self.says(desk, "asked", "0")
        for most in range(30):
            self.says(desk, f"most {most}", "ok")

    def test_no_thing(self):
        desk = Desk()
        for text in [
            "", " ", "a", "row ", " row", "row  a", "row a ", "row A", "rows", "Row", "row a,b", "row abcdefghi",
            "row" + " a" * 41, "forest ", "forest a(", "forest a b", "forest a,", "forest a()",
            "forest " + "a(" * 13 + "a" + ")" * 13, "table ", "table a / ", "table a b / c", "table / a", "table a /b",
            "table - a", "table" + " a" * 13, "table a" + " / a" * 12, "row\n", "row a\n", "row\ta", "\n", "thing",
            "thing row", "has(a)", "none", "row -", "shrink",
        ]:
            self.refused(NoText, desk, "thing " + text)
        self.refused(NoRow, desk, "thing\n")
        self.refused(NoRow, desk, "thing\trow")
        self.says(desk, "asked", "0")

    def test_no_fault(self):
        desk = Desk()
        for text in [
            "", "a", "has", "has()", "has(A)", "has(a", "has(a))", "hasa)", "Has(a)", "has(abcdefghi)", "has(a,b)",
            "many(0,a)", "many(01,a)", "many(1234567890,a)", "many(a)", "before(a)", "under(a,b,c)", "all(has(a))",
            "all()", "any(has(a))", "all(" + ",".join(["has(a)"] * 7) + ")", "not()", "not(a)", "not(has(a),has(b))",
            "has(a)\n", "\nhas(a)", "has(\t)", "has(a),has(b)", "not(" * 8 + "has(a)" + ")" * 8, "row", "ones", "0",
            "none", "has(a)has(b)",
        ]:
            self.refused(NoFault, desk, "fault " + text)
        self.refused(NoRow, desk, "fault\nhas(a)")
        self.says(desk, "asked", "0")

    def test_no_rule(self):
        desk = Desk()
        words = [word for word in no_rules() if isinstance(word, str)]
        for word in words:
            parts = word.split(" ")
            good = all(part in RULES for part in parts) and len(set(parts)) == len(parts)
            if not good:
                self.refused(NoRule, desk, "rules " + word)
                self.refused(NoRule, desk, "rules trees " + word)
                self.refused(NoRule, desk, "rules " + word + " marks")
        for rest in ["", " ", "  ", "ones ", " ones", "ones  halves", "ones halves ", "ones ones", "ones halves ones",
                     "halves trees ones marks halves", "halves trees ones marks ", "ones\n", "ones\thalves",
                     "ones,halves"]:
            self.refused(NoRule, desk, "rules " + rest)
        self.refused(NoRow, desk, "rules\nones")
        self.says(desk, "asked", "0")


class KeepingTest(DeskTest):
    """Point 27: what changes, and what stays."""

    WRONG = [
        (NoText, "thing row A"), (NoText, "thing "), (NoFault, "fault has(A)"), (NoFault, "fault "),
        (NoRule, "rules ones ones"), (NoRule, "rules trees half"), (NoRule, "rules "), (NoRow, "fault has(x) "),
        (NoRow, "most 01"), (NoRow, "most"), (NoRow, "thing"), (NoRow, "shrink "), (NoRow, "left 1"),
        (NoRow, None), (NoRow, 5), (NoRow, "bars none"), (NoRow, ""),
    ]

    def wrong_rows(self, desk):
        for error, row in self.WRONG:
            self.refused(error, desk, row)

    def test_what_is_refused_changes_nothing(self):
        desk = self.desk("thing row a b a b", "fault has(b)", "rules halves ones", "most 6")
        self.wrong_rows(desk)
        self.all_said(desk, "left", "none", "asked", "0", "bars", "none")
        self.wrong_rows(desk)
        self.all_said(desk, "shrink", "small row b", "asked", "4")
        self.wrong_rows(desk)
        self.all_said(desk, "left", "row b", "asked", "4", "bars", "1 3", "asked", "6", "grows", "yes")
        self.wrong_rows(desk)
        self.refused(Spent, desk, "needed")
        self.wrong_rows(desk)
        self.all_said(desk, "left", "row b", "asked", "6", "bars", "1 3", "shrink", "small row b")

    def test_on_a_new_desk_too(self):
        desk = Desk()
        self.wrong_rows(desk)
        self.all_said(desk, "left", "none", "asked", "0", "thing row c a c", "ok", "shrink", "small row a")

    def test_a_thing_told_anew(self):
        desk = self.desk("thing row a b a b", "fault has(b)", "rules ones", "most 7")
        self.says(desk, "shrink", "small row b")
        for thing in ["row a b a b", "row a b", "forest a(b)", "table a b"]:
            self.all_said(desk, "thing " + thing, "ok", "left", "none", "asked", "0", "bars", "none", "grows", "yes")
            # The fault, the rules and the number are as they were.
            desk.say("shrink")
            self.assertLessEqual(int(desk.say("asked")), 7)
        self.all_said(desk, "thing row a a a a a a a b", "ok", "shrink", "spent row a b")

    def test_a_fault_told_anew(self):
        desk = self.desk("thing row a b a b", "fault has(b)", "rules ones", "most 4")
        self.says(desk, "shrink", "spent row b")
        self.all_said(desk, "fault has(b)", "ok", "left", "none", "asked", "0", "bars", "none")
        self.all_said(desk, "fault has(a)", "ok", "left", "none", "asked", "0", "shrink", "spent row a b", "asked", "4")
        self.all_said(desk, "fault not(has(a))", "ok", "left", "none", "asked", "0", "grows", "no")
        self.refused(Healthy, desk, "shrink")

    def test_most_told_anew(self):
        desk = self.desk("thing row a b a b", "fault has(b)", "rules halves ones")
        self.says(desk, "shrink", "small row b")
        self.all_said(desk, "most 10000", "ok", "left", "none", "asked", "0", "bars", "none")
        self.all_said(desk, "most 3", "ok", "left", "none", "asked", "0", "shrink", "spent row a b", "asked", "3")
        self.all_said(desk, "most 3", "ok", "left", "none", "asked", "0")
        self.all_said(desk, "most 4", "ok", "shrink", "small row b", "asked", "4")

    def test_rules_told_anew(self):
        desk = self.desk("thing row a b a b", "fault has(b)", "rules halves ones")
        self.says(desk, "shrink", "small row b")
        for rules in lists_of_rules():
            self.all_said(desk, "rules " + " ".join(rules), "ok", "left", "row b", "asked", "4")
        desk = self.desk("thing row a b a b", "fault before(a,b)", "rules marks")
        self.all_said(desk, "shrink", "small row a b a b", "asked", "3", "rules ones", "ok")
        self.all_said(desk, "left", "row a b a b", "asked", "3")
        self.all_said(desk, "shrink", "small row a b", "asked", "7", "left", "row a b")
        self.all_said(desk, "rules marks", "ok", "left", "row a b", "shrink", "small row a b a b", "asked", "7")
        self.says(desk, "left", "row a b a b")

    def test_rules_in_their_order(self):
        for rules, asked in [
            ("ones trees", "4"), ("trees ones", "3"), ("halves", "3"), ("marks", "4"), ("ones halves", "4"),
        ]:
            desk = self.desk("thing forest c(d),b", "fault has(b)", "rules " + rules)
            self.all_said(desk, "shrink", "small forest b", "asked", asked)

    def test_a_refused_shrink_leaves_what_the_last_one_left(self):
        desk = self.desk("thing row a b", "fault has(x)")
        self.refused(Healthy, desk, "shrink")
        self.says(desk, "left", "none")
        self.all_said(desk, "fault has(b)", "ok", "shrink", "small row b")
        for error, row in self.WRONG:
            self.refused(error, desk, row)
            self.says(desk, "left", "row b")

    def test_all_that_asks_goes_by_one_asker(self):
        desk = self.desk("thing row a b c", "fault all(has(a),has(c))", "rules ones")
        self.all_said(desk, "needed", "0 2", "asked", "4", "shrink", "small row a c", "asked", "6", "needed", "0 2")
        self.all_said(desk, "bars", "0 / 2", "asked", "6", "shrink", "small row a c", "bars", "0 / 2", "asked", "6")

    def test_rows_that_do_not_ask(self):
        desk = self.desk("thing row a b a b", "fault has(b)")
        for turn in range(3):
            self.all_said(desk, "left", "none", "bars", "none", "grows", "yes", "rules ones", "ok", "asked", "0")

    def test_grows(self):
        for fault, answer in [
            ("has(a)", "yes"), ("many(3,a)", "yes"), ("before(a,b)", "yes"), ("under(a,b)", "yes"),
            ("beside(a,b)", "no"), ("not(has(a))", "no"), ("not(not(has(a)))", "no"),
            ("all(has(a),has(b))", "yes"), ("any(has(a),has(b))", "yes"), ("all(has(a),beside(a,b))", "no"),
            ("any(has(a),not(has(b)))", "no"), ("any(has(a),all(has(b),under(a,b)))", "yes"),
        ]:
            desk = self.desk("fault " + fault)
            self.all_said(desk, "grows", answer, "asked", "0")

    def test_two_desks(self):
        one = self.desk("thing row a b a b", "fault has(b)", "most 6")
        other = Desk()
        self.all_said(other, "left", "none", "asked", "0")
        self.says(one, "shrink", "small row b")
        self.refused(Healthy, other, "shrink")
        self.all_said(other, "asked", "1", "left", "none", "rules marks", "ok", "thing forest c(a),a", "ok")
        self.all_said(one, "asked", "4", "left", "row b", "bars", "1 3")
        self.all_said(other, "shrink", "small forest a,a", "asked", "3")
        self.all_said(other, "most 1", "ok", "shrink", "spent forest c(a),a")
        self.all_said(one, "asked", "6", "shrink", "small row b", "left", "row b")
        self.all_said(one, "most 4", "ok", "shrink", "small row b", "asked", "4")
        third = self.desk("thing row a b a b", "fault has(b)")
        self.all_said(third, "shrink", "small row b", "asked", "4", "bars", "1 3")


if __name__ == "__main__":
    unittest.main()

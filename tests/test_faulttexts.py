import re
import unittest

from faultmodels import (
    DEEP, JOINTS, LEAVES, count_of, depth_of, grows_of, holds_of, made, marks_of, nested, of_faults, text_of,
)
from samples import LETTERS, LONG, SIGNS, small_things
from shrinkhouse.errors import NoFault
from shrinkhouse.faults import All, Any, Before, Beside, Fault, Has, Many, Not, Under
from shrinkhouse.faulttexts import read_fault

MARK = "[a-z]{1,8}"
LEAF = f"has\\({MARK}\\)|many\\([1-9][0-9]{{0,8}},{MARK}\\)|(?:before|under|beside)\\({MARK},{MARK}\\)"
# The faults that were taken together already stand as <0>, <1> .., by signs that no text of a fault has.
JOINT = r"not\(<\d+>\)|(?:all|any)\(<\d+>(?:,<\d+>){1,5}\)"


def is_fault_text(text):
    """Whether a text is one that point 11 reads, told by taking the inmost faults together, turn by turn."""
    if not isinstance(text, str) or re.search(r"[^a-z0-9(),]", text):
        return False
    found = []  # (depth, faults) of each fault that was taken together

    def together(match):
        parts = [found[int(at)] for at in re.findall(r"<(\d+)>", match.group())]
        found.append((1 + max([part[0] for part in parts], default=0), 1 + sum(part[1] for part in parts)))
        return f"<{len(found) - 1}>"

    rest = re.sub(f"(?<![a-z])(?:{LEAF})", together, text)
    before = None
    while before != rest:
        before = rest
        rest = re.sub(f"(?<![a-z])(?:{JOINT})", together, rest)
    if not re.fullmatch(r"<\d+>", rest):
        return False
    deep, faults = found[int(rest[1:-1])]
    return deep <= 8 and faults <= 60


class ReadTest(unittest.TestCase):
    """Point 11: what is read."""

    def read(self, model):
        with self.subTest(text=text_of(model)):
            fault = read_fault(text_of(model))
            self.assertIsInstance(fault, Fault)
            self.assertIs(type(fault), type(made(model)))
            self.assertEqual(fault.shown(), text_of(model))
            self.assertEqual(fault.marks(), marks_of(model))
            self.assertIs(fault.grows(), grows_of(model))
            return fault

    def read_and_held(self, model):
        fault = self.read(model)
        for thing in small_things():
            self.assertIs(fault.holds(thing), holds_of(model, thing))

    def test_each_kind(self):
        for text, kind in [
            ("has(a)", Has), ("many(3,a)", Many), ("before(a,b)", Before), ("under(a,b)", Under),
            ("beside(a,b)", Beside), ("all(has(a),has(b))", All), ("any(has(a),has(b),has(c))", Any),
            ("not(has(a))", Not),
        ]:
            with self.subTest(text=text):
                fault = read_fault(text)
                self.assertIs(type(fault), kind)
                self.assertEqual(fault.shown(), text)

    def test_leaves_joints_and_deep_ones(self):
        for model in LEAVES + JOINTS + DEEP:
            self.read_and_held(model)

    def test_order_of_marks_and_parts(self):
        self.assertEqual(read_fault("before(b,a)").shown(), "before(b,a)")
        self.assertEqual(read_fault("any(has(c),has(a),has(b))").shown(), "any(has(c),has(a),has(b))")

    def test_words_of_faults_as_marks(self):
        words = ["has", "many", "before", "under", "beside", "all", "any", "not"]
        for word in words:
            for model in [("has", word), ("many", 2, word), ("not", ("has", word))]:
                self.read(model)
            for other in words:
                for pair in ["before", "under", "beside"]:
                    self.read((pair, word, other))

    def test_marks_of_each_length(self):
        for letter in LETTERS:
            self.read(("has", letter))
        for many in range(1, 9):
            self.read(("has", "z" * many))
            self.read(("many", 7, "z" * many))
            self.read(("before", "y" * many, "z" * (9 - many)))

    def test_numbers_of_one_to_nine_figures(self):
        for number in [1, 2, 5, 9, 10, 19, 20, 90, 99, 100, 101, 12345, 100000000, 123456789, 987654321, 999999999]:
            self.read(("many", number, "a"))
        for figures in range(1, 10):
            self.read(("many", 10 ** (figures - 1), "a"))
            self.read(("many", 10 ** figures - 1, "a"))

    def test_two_to_six_parts(self):
        for word in ["all", "any"]:
            for many in range(2, 7):
                self.read((word,) + (("has", "a"),) * many)

    def test_eight_deep(self):
        for words in [("not",), ("all",), ("any",), ("all", "not", "any")]:
            model = nested(8, words)
            self.assertEqual(depth_of(model), 8)
            self.read_and_held(model)

    def test_up_to_sixty_faults(self):
        for faults in [43, 58, 59, 60]:
            model = of_faults(faults)
            self.assertEqual(count_of(model), faults)
            self.read_and_held(model)

    def test_each_reading_is_its_own(self):
        first = read_fault("all(has(a),has(b))")
        second = read_fault("all(has(c),not(has(b)))")
        self.assertEqual([first.shown(), second.shown()], ["all(has(a),has(b))", "all(has(c),not(has(b)))"])


class RefusedTest(unittest.TestCase):
    """Point 11: what is refused."""

    def refused(self, text):
        with self.subTest(text=text), self.assertRaises(NoFault) as caught:
            read_fault(text)
        self.assertIs(type(caught.exception), NoFault)

    def test_no_text(self):
        for thing in [
            None, True, False, 0, 1, -1, LONG, [], ["has(a)"], (), ("has(a)",), ("has", "a"), ["has", "a"],
            [["has(a)"]], [[[["has(a)"]]]], ["h", "a", "s", "(", "a", ")"],
        ]:
            self.refused(thing)

    def test_no_signs(self):
        self.refused("")

    def test_what_lacks_or_is_too_many_or_is_none(self):
        for text in [
            # words
            "(a)", "a", "has", "ha(a)", "hass(a)", "hhas(a)", "(has(a))", "hashas(a)", "foo(a)", "(has(a),has(b))",
            "none(has(a))", "thing(a)", "has a", "or(has(a),has(b))", "a(has)", "3(a)", "behind(a,b)",
            # brackets
            "has(a", "has a)", "hasa)", "has((a)", "has(a))", "has((a))", "has[a]", "has{a}", ")has(a)", "has)a(", "(", ")",
            "()", "has()(a)", "not(has(a)", "not(has(a)))", "all(has(a),has(b)", "all(has(a,has(b))", "nothas(a)",
            # commas
            "has(a,)", "has(,a)", "before(ab)", "before(a,,b)", "before(,a,b)", "before(a,b,)", "many(3a)", "many(3,,a)",
            "all(has(a)has(b))", "all(,has(a),has(b))", "all(has(a),has(b),)", "all(has(a),,has(b))", "not(has(a),)", ",",
            "has(a),", ",has(a)", "before(a;b)", "before(a.b)",
            # numbers
            "many(a)", "many(,a)", "many(a,3)", "many(a,a)", "many(3)", "many(3,)", "many(3,3)", "many(3,3,a)", "many(3,a,a)",
            "many(three,a)", "many(3b,a)", "many(b3,a)", "many(has(a),a)", "many((3),a)",
            # marks
            "has()", "has(3)", "has(a3)", "has(3a)", "has(a_b)", "has(abcdefghi)", "has(a,b)", "has(has(a))", "has(-)",
            "before(a)", "before()", "before(,)", "before(a,)", "before(,b)", "before(a,b,c)", "before(abcdefghi,b)",
            "before(a,abcdefghi)", "under(a)", "under(a,b,c)", "beside(a)", "beside(a,b,c)", "before(3,a)", "under(a,3)",
            "before(has(a),b)", "before(a,has(b))", "many(1,abcdefghi)", "many(1,has(a))", "has('a')", 'has("a")',
            # parts
            "all()", "any()", "not()", "all(a,b)", "any(a,b)", "not(a)", "not(has(a),has(b))", "all(has(a),b)",
            "all(3,has(a),has(b))", "all(has(a))", "any(has(a))", "all(,)", "not(not)", "all(all,any)", "not(has)",
        ]:
            self.refused(text)

    def test_blanks_line_ends_and_tabs_at_any_place(self):
        for text in ["has(a)", "many(12,ab)", "before(a,b)", "all(has(a),not(under(b,c)))", "any(has(a),has(b))"]:
            for at in range(len(text) + 1):
                for sign in [" ", "\n", "\t", "  ", "\n\n"]:
                    self.refused(text[:at] + sign + text[at:])

    def test_great_letters(self):
        for text in ["has(a)", "many(12,ab)", "before(a,b)", "under(a,b)", "beside(a,b)", "not(has(a))",
                     "all(has(a),has(b))", "any(has(a),has(b))"]:
            for at, sign in enumerate(text):
                if sign.isalpha():
                    self.refused(text[:at] + sign.upper() + text[at + 1:])
            self.refused(text.upper())

    def test_numbers(self):
        for number in [
            "0", "00", "01", "001", "010", "-1", "+1", "-0", "+0", "--1", "1-", "1+", "1.0", "1e3", "1_0", "0x1", "1 0",
            "1000000000", "1234567890", "9999999999", "0123456789", "0000000001", "1" * 60, "1" * 1900, "0" * 1900, "",
            "1,0",
        ]:
            self.refused("many(" + number + ",a)")

    def test_a_shown_number_of_more_figures_is_not_read(self):
        for number in [10 ** 9, 10 ** 9 + 1, LONG]:
            self.refused(Many(number, "a").shown())
            self.refused(Not(Many(number, "a")).shown())

    def test_one_part_and_seven_parts(self):
        for word in ["all", "any"]:
            for many in [1, 7, 8, 12]:
                for part in ["has(a)", "not(has(a))"]:
                    text = word + "(" + ",".join([part] * many) + ")"
                    self.refused(text)
                    self.refused("not(" + text + ")")
                    self.refused("all(has(a)," + text + ")")

    def test_shown_with_one_part_or_seven(self):
        for kind in [All, Any]:
            self.refused(kind([Has("a")]).shown())
            self.refused(kind([Has("a")] * 7).shown())

    def test_nine_deep(self):
        for words in [("not",), ("all",), ("any",), ("all", "not", "any")]:
            for deep in [9, 10, 15, 30]:
                model = nested(deep, words)
                self.assertEqual(depth_of(model), deep)
                self.refused(text_of(model))
                self.refused(text_of(("all", ("has", "a"), model)))

    def test_nine_deep_in_a_later_part(self):
        good = nested(7)
        self.assertEqual(read_fault(text_of(("all", good, good))).shown(), text_of(("all", good, good)))
        self.refused(text_of(("all", good, nested(8))))
        self.refused(text_of(("all", nested(8), good)))

    def test_sixty_one_faults(self):
        for faults in [61, 62, 70, 79]:
            model = of_faults(faults)
            self.assertEqual(count_of(model), faults)
            self.refused(text_of(model))

    def test_thirty_brackets_open(self):
        for text in ["not(" * 30, "(" * 30, "not(" * 29 + "has(a" + ")" * 30, "all(" * 30 + ")" * 30, "has(" * 30]:
            self.refused(text)

    def test_anything_behind_a_whole_fault(self):
        for text in ["has(a)", "many(3,a)", "before(a,b)", "all(has(a),has(b))", "not(has(a))"]:
            for more in SIGNS + ["has(b)", ",has(b)", "()", ")has(b)"]:
                self.refused(text + more)

    def test_anything_ahead_of_a_whole_fault(self):
        for text in ["has(a)", "many(3,a)", "not(has(a))"]:
            for more in SIGNS + ["has(b)", "has(b),", "()", "not"]:
                self.refused(more + text)

    def test_long_texts(self):
        for text in ["a" * 2000, "(" + "a" * 1999, "has(" + "a" * 1995 + ")", "all(" + "has(a)," * 285, "3" * 2000]:
            self.refused(text)

    def test_good_behind_a_refusal(self):
        for wrong in ["", "has(a", "has(a))", "all(has(a))", text_of(of_faults(61)), text_of(nested(9)), None]:
            self.refused(wrong)
            for model in [of_faults(60), nested(8), ("has", "a")]:
                self.assertEqual(read_fault(text_of(model)).shown(), text_of(model))


class ChangedTest(unittest.TestCase):
    """Point 11: good texts with one sign changed, put in or left out, told good or wrong apart from the program."""

    def told(self, text):
        if is_fault_text(text):
            self.assertEqual(read_fault(text).shown(), text)
            return True
        with self.assertRaises(NoFault, msg=text) as caught:
            read_fault(text)
        self.assertIs(type(caught.exception), NoFault)
        return False

    def test_the_telling_itself(self):
        for model in LEAVES + JOINTS + DEEP + [of_faults(60)]:
            self.assertTrue(is_fault_text(text_of(model)))
        for model in [nested(9), of_faults(61), ("all", ("has", "a")), ("any",) + (("has", "a"),) * 7]:
            self.assertFalse(is_fault_text(text_of(model)))
        for text in ["", "has(a) ", "has(A)", "many(0,a)", "many(1234567890,a)", "nothas(a)", "has(abcdefghi)"]:
            self.assertFalse(is_fault_text(text))

    def test_one_sign_changed_put_in_or_left_out(self):
        texts = ["has(a)", "has(abcdefgh)", "many(3,a)", "many(123456789,b)", "before(a,b)", "under(a,b)", "beside(b,a)",
                 "not(has(a))", "all(has(a),has(b))", "any(has(a),not(many(2,b)),has(c))", text_of(nested(8))]
        good = 0
        for text in texts:
            for at in range(len(text) + 1):
                changed = [text[:at] + text[at + 1:]]
                for sign in SIGNS:
                    changed += [text[:at] + sign + text[at:], text[:at] + sign + text[at + 1:]]
                good += sum(self.told(one) for one in changed)
        # Changed marks and numbers are mostly good still.
        self.assertGreater(good, 500)

    def test_each_beginning_and_each_end(self):
        for model in [of_faults(60), nested(8), JOINTS[-1], JOINTS[-2]]:
            text = text_of(model)
            for at in range(1, len(text)):
                self.assertFalse(self.told(text[:at]))
                self.told(text[at:])

    def test_two_texts_put_together(self):
        texts = [text_of(model) for model in LEAVES[:6] + JOINTS[:3]]
        for first in texts:
            for second in texts:
                for between in ["", ",", "(", ")", " "]:
                    self.assertFalse(self.told(first + between + second))
                self.assertTrue(self.told("all(" + first + "," + second + ")"))


if __name__ == "__main__":
    unittest.main()

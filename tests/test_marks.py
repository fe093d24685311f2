import unittest

from samples import LETTERS, LONG, NO_MARKS, NO_WHOLES, SIGNS
from shrinkhouse.marks import is_mark, is_whole


class WholeTest(unittest.TestCase):
    """Point 2."""

    def test_numbers_of_either_sign(self):
        for number in [0, 1, -1, 2, 7, -12, 40, 255, 256, 2 ** 31, 2 ** 63, -2 ** 64, LONG, -LONG, 10 ** 60 - 1]:
            with self.subTest(number=number):
                self.assertIs(is_whole(number), True)

    def test_truths_are_none(self):
        self.assertIs(is_whole(True), False)
        self.assertIs(is_whole(False), False)

    def test_other_things_are_none(self):
        for thing in NO_WHOLES:
            with self.subTest(thing=thing):
                self.assertIs(is_whole(thing), False)


class MarkTest(unittest.TestCase):
    """Point 4."""

    def test_one_to_eight_small_letters(self):
        for letter in LETTERS:
            for many in range(1, 9):
                with self.subTest(letter=letter, many=many):
                    self.assertIs(is_mark(letter * many), True)
        for mark in ["ab", "zebra", "abcdefgh", "stuvwxyz", "has", "row"]:
            with self.subTest(mark=mark):
                self.assertIs(is_mark(mark), True)

    def test_no_letter_and_more_than_eight(self):
        for many in [0, 9, 10, 16, 40, 2000]:
            with self.subTest(many=many):
                self.assertIs(is_mark("a" * many), False)

    def test_every_other_sign_at_every_place(self):
        for sign in SIGNS:
            if sign in LETTERS:
                continue
            for many in range(8):
                for at in range(many + 1):
                    text = "a" * at + sign + "a" * (many - at)
                    with self.subTest(text=text):
                        self.assertIs(is_mark(text), False)

    def test_letters_beyond_z(self):
        for text in ["\u00e4", "a\u00df", "\u0430", "\u00aa", "\u0131"]:
            with self.subTest(text=text):
                self.assertIs(is_mark(text), False)

    def test_other_things_are_none(self):
        for thing in NO_MARKS:
            with self.subTest(thing=thing):
                self.assertIs(is_mark(thing), False)


if __name__ == "__main__":
    unittest.main()

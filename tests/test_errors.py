import unittest

from shrinkhouse import errors

NAMES = ["NoThing", "NoPlace", "NoFault", "NoRule", "Spent", "Healthy", "NoText", "NoRow"]


class ErrorsTest(unittest.TestCase):
    def test_shrink_error_is_a_value_error(self):
        self.assertEqual(errors.ShrinkError.__bases__, (ValueError,))

    def test_each_stands_straight_under_shrink_error(self):
        for name in NAMES:
            with self.subTest(name=name):
                self.assertEqual(getattr(errors, name).__bases__, (errors.ShrinkError,))

    def test_none_stands_under_another_one(self):
        for name in NAMES:
            for other in NAMES:
                if name != other:
                    with self.subTest(name=name, other=other):
                        self.assertFalse(issubclass(getattr(errors, name), getattr(errors, other)))

    def test_each_is_raised_with_words(self):
        for name in NAMES:
            with self.subTest(name=name), self.assertRaises(errors.ShrinkError) as caught:
                raise getattr(errors, name)("some words")
            self.assertIs(type(caught.exception), getattr(errors, name))


if __name__ == "__main__":
    unittest.main()

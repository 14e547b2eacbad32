import unittest

from matesquare import errors

UNDER = ("BadSquare", "BadPlace", "BadCut", "BadBlock", "BadOrder", "BadNumber", "TooBig", "BadText")


class Errors(unittest.TestCase):
    def test_any_refusal_is_a_value_error(self):
        self.assertEqual(errors.SquareError.__bases__, (ValueError,))

    def test_each_refusal_stands_straight_under_square_error(self):
        for name in UNDER:
            with self.subTest(name=name):
                self.assertEqual(getattr(errors, name).__bases__, (errors.SquareError,))

    def test_refusals_are_classes_of_their_own(self):
        self.assertEqual(len({getattr(errors, name) for name in UNDER}), len(UNDER))

    def test_each_can_be_raised_with_free_words(self):
        for name in UNDER:
            with self.subTest(name=name), self.assertRaises(errors.SquareError):
                raise getattr(errors, name)("free words")


if __name__ == "__main__":
    unittest.main()

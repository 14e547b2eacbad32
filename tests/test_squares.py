import unittest

from matesquare.errors import BadPlace, BadSquare
from matesquare.squares import checked, is_order, letter_at, places_of
from tests.samples import (
    FOUR_WITH_CUTS, HUGE, ONE, ORDINARY, THREE, squares_beginning_in_order, things_of_other_kinds, turned,
    with_letter, wrong_numbers, wrong_squares,
)

ALL_SIZES = ORDINARY + (turned(8), turned(9), turned(9, 2))


class Checked(unittest.TestCase):
    def test_a_square_is_told_as_it_is(self):
        for square in ALL_SIZES:
            with self.subTest(square=square):
                before = repr(square)
                self.assertIs(checked(square), square)
                self.assertEqual(repr(square), before)

    def test_sizes_from_one_to_nine(self):
        for many in range(1, 10):
            self.assertEqual(checked(turned(many)), turned(many))
        for square in ((), turned(10), turned(11)):
            self.assertRaises(BadSquare, checked, square)

    def test_all_squares_of_size_four_with_the_first_row_in_order(self):
        squares = squares_beginning_in_order(4)
        self.assertEqual(len(squares), 24)
        for square in squares:
            self.assertEqual(checked(square), square)

    def test_what_is_no_square_is_refused(self):
        for number, wrong in enumerate(wrong_squares()):
            with self.subTest(number=number):
                self.assertRaises(BadSquare, checked, wrong)

    def test_a_wrong_letter_is_found_at_each_place(self):
        for row, letters in enumerate(FOUR_WITH_CUTS):
            for column, right in enumerate(letters):
                doubled = [letter for letter in range(4) if letter != right]
                for wrong in doubled + [-1, 4, HUGE, True, False, float(right), str(right), None]:
                    with self.subTest(row=row, column=column):
                        self.assertRaises(BadSquare, checked, with_letter(FOUR_WITH_CUTS, row, column, wrong))

    def test_a_refused_list_is_not_changed(self):
        rows = [[1, 0], [0, 1]]
        self.assertRaises(BadSquare, checked, rows)
        self.assertEqual(rows, [[1, 0], [0, 1]])


class LetterAt(unittest.TestCase):
    def test_the_letter_of_the_row_and_the_column(self):
        for square in ALL_SIZES:
            for row, letters in enumerate(square):
                for column, letter in enumerate(letters):
                    self.assertEqual(letter_at(square, row, column), letter)

    def test_rows_come_before_columns(self):
        self.assertEqual(letter_at(turned(5, 2), 1, 0), 2)
        self.assertEqual(letter_at(turned(5, 2), 0, 1), 1)

    def test_size_one_and_size_nine(self):
        self.assertEqual(letter_at(ONE, 0, 0), 0)
        self.assertEqual(letter_at(turned(9), 8, 8), 7)

    def test_what_is_no_square_is_refused(self):
        for number, wrong in enumerate(wrong_squares()):
            with self.subTest(number=number):
                self.assertRaises(BadSquare, letter_at, wrong, 0, 0)

    def test_what_is_no_number_of_a_row_or_a_column_is_refused(self):
        for square in (ONE, THREE, turned(9)):
            for number, wrong in enumerate(wrong_numbers(len(square))):
                with self.subTest(size=len(square), number=number):
                    self.assertRaises(BadPlace, letter_at, square, wrong, 0)
                    self.assertRaises(BadPlace, letter_at, square, 0, wrong)
                    self.assertRaises(BadPlace, letter_at, square, wrong, wrong)

    def test_the_square_is_refused_ahead_of_the_place(self):
        for wrong in wrong_squares():
            self.assertRaises(BadSquare, letter_at, wrong, -1, None)


class PlacesOf(unittest.TestCase):
    def test_for_each_row_the_column_of_the_letter(self):
        for square in ALL_SIZES:
            for letter in range(len(square)):
                places = places_of(square, letter)
                self.assertIsInstance(places, tuple)
                self.assertEqual(len(places), len(square))
                self.assertEqual([row[column] for row, column in zip(square, places)], [letter] * len(square))

    def test_written_out(self):
        self.assertEqual(places_of(ONE, 0), (0,))
        self.assertEqual(places_of(((1, 2, 0), (0, 1, 2), (2, 0, 1)), 0), (2, 0, 1))
        self.assertEqual(places_of(turned(9), 0), (0, 8, 7, 6, 5, 4, 3, 2, 1))

    def test_what_is_no_square_is_refused(self):
        for number, wrong in enumerate(wrong_squares()):
            with self.subTest(number=number):
                self.assertRaises(BadSquare, places_of, wrong, 0)

    def test_what_is_no_letter_is_refused(self):
        for square in (ONE, THREE, turned(9)):
            for number, wrong in enumerate(wrong_numbers(len(square))):
                with self.subTest(size=len(square), number=number):
                    self.assertRaises(BadPlace, places_of, square, wrong)

    def test_the_square_is_refused_ahead_of_the_letter(self):
        for wrong in wrong_squares():
            self.assertRaises(BadSquare, places_of, wrong, None)


class Orders(unittest.TestCase):
    def test_each_number_once(self):
        for order in ((0,), (1, 0), (2, 0, 1), (8, 7, 6, 5, 4, 3, 2, 1, 0)):
            self.assertIs(is_order(len(order), order), True)

    def test_all_else_is_none(self):
        wrong = [[0, 1], (0,), (0, 1, 2), (0, 0), (1, 1), (1, 2), (-1, 0), (0, True), (False, 1), (0.0, 1), "01"]
        for thing in wrong + things_of_other_kinds():
            self.assertIs(is_order(2, thing), False)


if __name__ == "__main__":
    unittest.main()

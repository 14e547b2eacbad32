import unittest
from itertools import combinations, permutations, product

from matesquare.cuts import all_cuts, cuts_at, is_cut, letters_on, most_apart
from matesquare.errors import BadCut, BadPlace, BadSquare, TooBig
from tests.samples import (
    FIVE_WITH_FEW, FOUR_WITH_CUTS, FOUR_WITHOUT, HUGE, ONE, ORDINARY, SEVEN_UNEVEN, SIX_WITH_CUTS, SIX_WITHOUT,
    THREE, TWO, plain_cuts, plain_most, share_a_place, squares_beginning_in_order, things_of_other_kinds, turned,
    wrong_numbers, wrong_squares,
)

WITHOUT_ANY = (TWO, FOUR_WITHOUT, turned(6), SIX_WITHOUT)


def wrong_cuts(cut):
    """Things that are no cut of a square of which the cut, of three rows or more, is one."""
    many = len(cut)
    return things_of_other_kinds() + [
        0,
        HUGE,
        list(cut),
        "".join(str(column) for column in cut),
        cut[:-1],
        cut + (many,),
        cut + (0,),
        (cut,),
        (0,) * many,
        tuple(column + 1 for column in cut),
        tuple(column - many for column in cut),
        tuple(float(column) for column in cut),
        tuple(bool(column) if column < 2 else column for column in cut),
        tuple(True if column == 1 else column for column in cut),
        tuple(False if column == 0 else column for column in cut),
        (cut[0],) + cut[:-1],
        cut[:-1] + (None,),
        cut[:-1] + (HUGE,),
        cut[:-1] + (-1,),
        cut[:-1] + ([cut[-1]],),
        cut[:-1] + (things_of_other_kinds()[-1],),
        # An order, but not all letters stand on it.
        (cut[1], cut[0]) + cut[2:],
    ]


class IsCut(unittest.TestCase):
    def test_just_the_orders_with_all_letters(self):
        for square in ORDINARY:
            cuts = set(plain_cuts(square))
            for columns in permutations(range(len(square))):
                self.assertIs(is_cut(square, columns), columns in cuts)

    def test_each_tuple_of_columns_of_small_squares(self):
        for square in (ONE, TWO, turned(3), THREE, FOUR_WITH_CUTS, FOUR_WITHOUT):
            cuts = set(plain_cuts(square))
            for columns in product(range(-1, len(square) + 1), repeat=len(square)):
                self.assertIs(is_cut(square, columns), columns in cuts)

    def test_sizes_one_eight_and_nine(self):
        self.assertIs(is_cut(ONE, (0,)), True)
        self.assertIs(is_cut(turned(8), tuple(range(8))), False)
        self.assertIs(is_cut(turned(9), tuple(range(9))), True)
        self.assertIs(is_cut(turned(9), tuple(range(8))), False)

    def test_a_thing_of_any_kind_is_answered(self):
        for square in (turned(3), FOUR_WITH_CUTS, FIVE_WITH_FEW, turned(7)):
            for number, thing in enumerate(wrong_cuts(plain_cuts(square)[0])):
                with self.subTest(size=len(square), number=number):
                    self.assertIs(is_cut(square, thing), False)
        for thing in things_of_other_kinds() + [(thing,) for thing in things_of_other_kinds()]:
            self.assertIs(is_cut(ONE, thing), False)

    def test_a_cut_of_another_square_is_none(self):
        self.assertIs(is_cut(turned(3), (0, 2, 1)), False)
        self.assertIs(is_cut(turned(3, 2), (0, 2, 1)), True)

    def test_what_is_no_square_is_refused(self):
        for number, wrong in enumerate(wrong_squares()):
            with self.subTest(number=number):
                self.assertRaises(BadSquare, is_cut, wrong, (0,))
                self.assertRaises(BadSquare, is_cut, wrong, None)


class AllCuts(unittest.TestCase):
    def test_all_of_them_rising(self):
        for square in ORDINARY:
            with self.subTest(square=square):
                cuts = all_cuts(square)
                self.assertIsInstance(cuts, list)
                self.assertEqual(cuts, plain_cuts(square))
                self.assertEqual(cuts, sorted(cuts))

    def test_all_squares_of_size_four_with_the_first_row_in_order(self):
        for square in squares_beginning_in_order(4):
            self.assertEqual(all_cuts(square), plain_cuts(square))

    def test_written_out(self):
        self.assertEqual(all_cuts(ONE), [(0,)])
        self.assertEqual(all_cuts(turned(3)), [(0, 1, 2), (1, 2, 0), (2, 0, 1)])

    def test_how_many(self):
        known = [(turned(1), 1), (turned(3), 3), (FOUR_WITH_CUTS, 8), (turned(5), 15), (FIVE_WITH_FEW, 3),
                 (SIX_WITH_CUTS, 8), (turned(7), 133), (SEVEN_UNEVEN, 7)]
        for square, many in known:
            self.assertEqual(len(all_cuts(square)), many)

    def test_squares_without_any(self):
        for square in WITHOUT_ANY:
            self.assertEqual(all_cuts(square), [])

    def test_beyond_size_seven_is_too_big(self):
        self.assertEqual(len(all_cuts(turned(7, 2))), 133)
        for square in (turned(8), turned(9)):
            self.assertRaises(TooBig, all_cuts, square)

    def test_what_is_no_square_is_refused(self):
        for number, wrong in enumerate(wrong_squares()):
            with self.subTest(number=number):
                self.assertRaises(BadSquare, all_cuts, wrong)
        self.assertRaises(BadSquare, all_cuts, turned(8)[:7] + (turned(8)[0],))

    def test_the_list_is_a_new_one_each_time(self):
        for square in (ONE, turned(5), FOUR_WITHOUT):
            first = all_cuts(square)
            first.append("mark")
            self.assertEqual(all_cuts(square), plain_cuts(square))


class CutsAt(unittest.TestCase):
    def test_those_that_meet_the_place_rising(self):
        for square in ORDINARY:
            cuts = plain_cuts(square)
            for row, column in product(range(len(square)), repeat=2):
                found = cuts_at(square, row, column)
                self.assertIsInstance(found, list)
                self.assertEqual(found, [cut for cut in cuts if cut[row] == column])

    def test_written_out(self):
        self.assertEqual(cuts_at(ONE, 0, 0), [(0,)])
        self.assertEqual(cuts_at(turned(3), 1, 0), [(2, 0, 1)])
        self.assertEqual(cuts_at(TWO, 1, 0), [])

    def test_beyond_size_seven_is_too_big(self):
        self.assertEqual(len(cuts_at(turned(7), 6, 6)), 19)
        for square in (turned(8), turned(9)):
            self.assertRaises(TooBig, cuts_at, square, 0, 0)

    def test_what_is_no_number_of_a_row_or_a_column_is_refused(self):
        for square in (ONE, TWO, THREE, turned(7)):
            for number, wrong in enumerate(wrong_numbers(len(square))):
                with self.subTest(size=len(square), number=number):
                    self.assertRaises(BadPlace, cuts_at, square, wrong, 0)
                    self.assertRaises(BadPlace, cuts_at, square, 0, wrong)
                    self.assertRaises(BadPlace, cuts_at, square, wrong, wrong)

    def test_the_refusal_named_first_is_told(self):
        for wrong in wrong_squares():
            self.assertRaises(BadSquare, cuts_at, wrong, 0, 0)
            self.assertRaises(BadSquare, cuts_at, wrong, None, -1)
        self.assertRaises(TooBig, cuts_at, turned(8), 8, 0)
        self.assertRaises(TooBig, cuts_at, turned(9), None, True)

    def test_the_list_is_a_new_one_each_time(self):
        for square in (ONE, turned(5), FOUR_WITHOUT):
            before = list(cuts_at(square, 0, 0))
            cuts_at(square, 0, 0).append("mark")
            all_cuts(square).clear()
            self.assertEqual(cuts_at(square, 0, 0), before)


class LettersOn(unittest.TestCase):
    def test_row_by_row(self):
        for square in ORDINARY:
            for cut in plain_cuts(square):
                letters = letters_on(square, cut)
                self.assertIsInstance(letters, tuple)
                self.assertEqual(letters, tuple(square[row][cut[row]] for row in range(len(square))))

    def test_written_out(self):
        self.assertEqual(letters_on(ONE, (0,)), (0,))
        self.assertEqual(letters_on(turned(3), (1, 2, 0)), (1, 0, 2))

    def test_beyond_size_seven_nothing_is_refused(self):
        self.assertEqual(letters_on(turned(9), tuple(range(9))), (0, 2, 4, 6, 8, 1, 3, 5, 7))
        self.assertRaises(BadCut, letters_on, turned(8), tuple(range(8)))

    def test_what_is_no_cut_is_refused(self):
        for square in (turned(3), FOUR_WITH_CUTS, FIVE_WITH_FEW, turned(7)):
            for number, thing in enumerate(wrong_cuts(plain_cuts(square)[0])):
                with self.subTest(size=len(square), number=number):
                    self.assertRaises(BadCut, letters_on, square, thing)
        for square in WITHOUT_ANY[:2]:
            for columns in permutations(range(len(square))):
                self.assertRaises(BadCut, letters_on, square, columns)

    def test_the_square_is_refused_ahead_of_the_cut(self):
        for wrong in wrong_squares():
            self.assertRaises(BadSquare, letters_on, wrong, (0,))
            self.assertRaises(BadSquare, letters_on, wrong, None)

    def test_a_refused_list_is_not_changed(self):
        cut = [1, 2, 0]
        self.assertRaises(BadCut, letters_on, turned(3), cut)
        self.assertIs(is_cut(turned(3), cut), False)
        self.assertEqual(cut, [1, 2, 0])


class MostApart(unittest.TestCase):
    def assert_most(self, square, many):
        chosen = most_apart(square)
        self.assertIsInstance(chosen, list)
        self.assertEqual(len(chosen), many)
        cuts = plain_cuts(square)
        for cut in chosen:
            self.assertIsInstance(cut, tuple)
            self.assertIn(cut, cuts)
        for one, other in combinations(chosen, 2):
            self.assertFalse(share_a_place(one, other))

    def test_known_ones(self):
        known = [(ONE, 1), (TWO, 0), (turned(3), 3), (THREE, 3), (FOUR_WITH_CUTS, 4), (FOUR_WITHOUT, 0),
                 (turned(5), 5), (turned(5, 2), 5), (FIVE_WITH_FEW, 1)]
        for square, many in known:
            with self.subTest(square=square):
                self.assert_most(square, many)

    def test_as_many_as_can_be_in_all_squares_with_the_first_row_in_order(self):
        for size, how_many in ((1, 1), (2, 1), (3, 2), (4, 24), (5, 1344)):
            squares = squares_beginning_in_order(size)
            self.assertEqual(len(squares), how_many)
            for square in squares:
                self.assert_most(square, plain_most(square))

    def test_beyond_size_five_is_too_big(self):
        for square in (turned(6), SIX_WITH_CUTS, turned(7), turned(8), turned(9)):
            self.assertRaises(TooBig, most_apart, square)

    def test_what_is_no_square_is_refused(self):
        for number, wrong in enumerate(wrong_squares()):
            with self.subTest(number=number):
                self.assertRaises(BadSquare, most_apart, wrong)

    def test_the_list_is_a_new_one_each_time(self):
        for square in (ONE, FOUR_WITH_CUTS, FOUR_WITHOUT):
            many = len(most_apart(square))
            most_apart(square).append("mark")
            self.assert_most(square, many)


if __name__ == "__main__":
    unittest.main()

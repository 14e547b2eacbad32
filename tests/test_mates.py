import unittest
from itertools import combinations, permutations, product

from matesquare.errors import BadSquare, TooBig
from matesquare.mates import are_mates, clashes, cuts_by, mate, parting
from tests.samples import (
    FIVE_WITH_FEW, FOUR_WITH_CUTS, FOUR_WITHOUT, ONE, ORDINARY, SEVENS_WITH_MATES, SEVENS_WITHOUT_MATES,
    SIX_WITH_CUTS, SIX_WITHOUT, THREE, TWO, fielded, plain_clash, plain_cuts, plain_has_mate, plain_has_parting,
    seconds_for, share_a_place, shuffled, squares_beginning_in_order, turned, wrong_squares,
)

FOUR_MATE = fielded(4, 2)
MATES = (
    (ONE, ONE),
    (turned(3), turned(3, 2)),
    (turned(3, 2), turned(3)),
    (FOUR_WITH_CUTS, FOUR_MATE),
    (turned(5), turned(5, 3)),
    (turned(7, 2), turned(7, 5)),
    (fielded(8, 3), fielded(8, 6)),
    (turned(9), turned(9, 2)),
    (turned(9, 5), shuffled(turned(9, 4), range(9), range(9), (8, 2, 0, 1, 3, 7, 5, 6, 4))),
)
NO_MATES = (
    (TWO, TWO),
    (turned(3), turned(3)),
    (turned(3), THREE),
    (FOUR_WITHOUT, FOUR_WITH_CUTS),
    (FOUR_WITHOUT, turned(4, 3)),
    (turned(5), FIVE_WITH_FEW),
    (SIX_WITH_CUTS, SIX_WITHOUT),
    (turned(7), SEVENS_WITH_MATES[0]),
    (turned(8), turned(8, 3)),
    (turned(9), turned(9)),
    (turned(9), turned(9, 4)),
    (turned(9, 2), turned(9, 8)),
)
WITH_MATES = (ONE, turned(3), THREE, FOUR_WITH_CUTS, turned(5, 2), turned(5, 4)) + SEVENS_WITH_MATES
WITHOUT_MATES = (TWO, FOUR_WITHOUT, FIVE_WITH_FEW, turned(6), SIX_WITHOUT, SIX_WITH_CUTS) + SEVENS_WITHOUT_MATES


def wrong_pairs():
    for wrong in wrong_squares():
        for right in (ONE, TWO, turned(3), turned(9)):
            yield (wrong, right)
            yield (right, wrong)
        yield (wrong, wrong)
    for one, other in permutations(range(1, 10), 2):
        yield (turned(one), turned(other))
    yield (turned(10), turned(10, 3))
    yield (list(turned(3)), list(turned(3, 2)))


class AreMates(unittest.TestCase):
    def test_mates_are(self):
        for one, other in MATES:
            with self.subTest(one=one, other=other):
                self.assertIs(are_mates(one, other), True)
                self.assertIs(are_mates(other, one), True)

    def test_others_are_not(self):
        for one, other in NO_MATES:
            with self.subTest(one=one, other=other):
                self.assertIs(are_mates(one, other), False)
                self.assertIs(are_mates(other, one), False)

    def test_each_two_small_squares(self):
        for many in (1, 2, 3, 4):
            for one, other in product(squares_beginning_in_order(many), repeat=2):
                pairs = {pair for rows in zip(one, other) for pair in zip(*rows)}
                self.assertIs(are_mates(one, other), len(pairs) == many * many)

    def test_what_is_no_square_or_of_unlike_size_is_refused(self):
        for number, (one, other) in enumerate(wrong_pairs()):
            with self.subTest(number=number):
                self.assertRaises(BadSquare, are_mates, one, other)


class Clashes(unittest.TestCase):
    def test_none_of_mates(self):
        for one, other in MATES:
            self.assertIsNone(clashes(one, other))
            self.assertIsNone(clashes(other, one))

    def test_the_first_pair_with_its_first_two_places(self):
        for one, other in NO_MATES:
            for these, those in ((one, other), (other, one)):
                with self.subTest(one=these, other=those):
                    self.assertEqual(clashes(these, those), plain_clash(these, those))
                    self.assertIsInstance(clashes(these, those), tuple)

    def test_each_two_ordinary_squares_of_one_size(self):
        for one, other in product(ORDINARY + SEVENS_WITH_MATES, repeat=2):
            if len(one) == len(other):
                self.assertEqual(clashes(one, other), plain_clash(one, other))

    def test_each_two_small_squares(self):
        for many in (2, 3, 4):
            for one, other in product(squares_beginning_in_order(many), repeat=2):
                other = shuffled(other, range(many), range(many), range(many - 1, -1, -1))
                self.assertEqual(clashes(one, other), plain_clash(one, other))

    def test_written_out(self):
        self.assertIsNone(clashes(ONE, ONE))
        self.assertEqual(clashes(TWO, TWO), ((0, 0), (0, 0), (1, 1)))
        self.assertEqual(clashes(TWO, TWO[::-1]), ((0, 1), (0, 0), (1, 1)))
        self.assertEqual(clashes(turned(3), turned(3)), ((0, 0), (0, 0), (1, 2)))
        # The pair (1, 0) stands twice further ahead; the pair (0, 1) is the first by its letters.
        self.assertEqual(clashes(((1, 0), (0, 1)), ((0, 1), (1, 0))), ((0, 1), (0, 1), (1, 0)))
        self.assertEqual(clashes(turned(9), turned(9, 4)), ((0, 0), (0, 0), (3, 6)))

    def test_what_is_no_square_or_of_unlike_size_is_refused(self):
        for number, (one, other) in enumerate(wrong_pairs()):
            with self.subTest(number=number):
                self.assertRaises(BadSquare, clashes, one, other)


class CutsBy(unittest.TestCase):
    def test_for_each_letter_of_the_second_one_a_cut_of_the_first_one(self):
        for one, other in MATES:
            with self.subTest(one=one, other=other):
                cuts = cuts_by(one, other)
                self.assertIsInstance(cuts, list)
                self.assertEqual(len(cuts), len(other))
                for letter, cut in enumerate(cuts):
                    self.assertIsInstance(cut, tuple)
                    self.assertEqual([other[row][column] for row, column in enumerate(cut)], [letter] * len(other))
                    self.assertEqual(len({one[row][column] for row, column in enumerate(cut)}), len(one))

    def test_written_out(self):
        self.assertEqual(cuts_by(ONE, ONE), [(0,)])
        self.assertEqual(cuts_by(turned(3), turned(3, 2)), [(0, 1, 2), (1, 2, 0), (2, 0, 1)])
        self.assertEqual(cuts_by(turned(3, 2), turned(3)), [(0, 2, 1), (1, 0, 2), (2, 1, 0)])
        # In order of the letters, not of the columns.
        renamed = shuffled(turned(3, 2), range(3), range(3), (2, 0, 1))
        self.assertEqual(cuts_by(turned(3), renamed), [(1, 2, 0), (2, 0, 1), (0, 1, 2)])

    def test_what_are_no_mates_is_refused(self):
        for one, other in NO_MATES:
            self.assertRaises(BadSquare, cuts_by, one, other)
            self.assertRaises(BadSquare, cuts_by, other, one)

    def test_what_is_no_square_or_of_unlike_size_is_refused(self):
        for number, (one, other) in enumerate(wrong_pairs()):
            with self.subTest(number=number):
                self.assertRaises(BadSquare, cuts_by, one, other)

    def test_the_list_is_a_new_one_each_time(self):
        for one, other in MATES:
            before = list(cuts_by(one, other))
            cuts_by(one, other).append("mark")
            cuts_by(one, other).clear()
            self.assertEqual(cuts_by(one, other), before)


class Parting(unittest.TestCase):
    def assert_parting(self, square, cuts):
        many = len(square)
        self.assertIsInstance(cuts, list)
        self.assertEqual([cut[0] for cut in cuts], list(range(many)))
        for cut in cuts:
            self.assertIsInstance(cut, tuple)
            self.assertEqual(sorted(cut), list(range(many)))
            self.assertEqual(len({square[row][column] for row, column in enumerate(cut)}), many)
        for one, other in combinations(cuts, 2):
            self.assertFalse(share_a_place(one, other))

    def test_squares_with_mates(self):
        for square in WITH_MATES:
            with self.subTest(square=square):
                self.assert_parting(square, parting(square))

    def test_squares_without(self):
        for square in WITHOUT_MATES:
            with self.subTest(square=square):
                self.assertIsNone(parting(square))

    def test_just_where_there_is_a_mate_of_small_squares(self):
        for many in (1, 2, 3, 4, 5):
            for square in squares_beginning_in_order(many):
                if many == 5 and [row[0] for row in square] != [0, 1, 2, 3, 4]:
                    continue
                cuts = parting(square)
                self.assertIs(cuts is not None, plain_has_mate(square))
                if cuts is not None:
                    self.assert_parting(square, cuts)

    def test_just_where_cuts_meet_all_places_of_ordinary_squares(self):
        for square in ORDINARY + WITH_MATES + WITHOUT_MATES:
            places = frozenset(product(range(len(square)), repeat=2))
            cuts = [frozenset(enumerate(cut)) for cut in plain_cuts(square)]
            self.assertIs(parting(square) is not None, plain_has_parting(places, cuts))

    def test_written_out(self):
        self.assertEqual(parting(ONE), [(0,)])
        self.assertIsNone(parting(TWO))
        self.assertEqual(parting(turned(3)), [(0, 1, 2), (1, 2, 0), (2, 0, 1)])

    def test_beyond_size_seven_is_too_big(self):
        self.assert_parting(turned(7), parting(turned(7)))
        for square in (turned(8), fielded(8, 1), turned(9), turned(9, 2)):
            self.assertRaises(TooBig, parting, square)

    def test_what_is_no_square_is_refused(self):
        for number, wrong in enumerate(wrong_squares() + [turned(8)[:7] + (turned(8)[0],), turned(8)[:7]]):
            with self.subTest(number=number):
                self.assertRaises(BadSquare, parting, wrong)

    def test_the_list_is_a_new_one_each_time(self):
        for square in WITH_MATES:
            parting(square).append("mark")
            parting(square).clear()
            self.assert_parting(square, parting(square))


class Mate(unittest.TestCase):
    def assert_mate(self, square, other):
        many = len(square)
        self.assertIsInstance(other, tuple)
        for row in other:
            self.assertIsInstance(row, tuple)
        for line in list(other) + list(zip(*other)):
            self.assertEqual(sorted(line), list(range(many)))
        self.assertEqual(len({pair for rows in zip(square, other) for pair in zip(*rows)}), many * many)

    def test_squares_with_mates(self):
        for square in WITH_MATES:
            with self.subTest(square=square):
                self.assert_mate(square, mate(square))

    def test_squares_without(self):
        for square in WITHOUT_MATES:
            with self.subTest(square=square):
                self.assertIsNone(mate(square))

    def test_just_where_there_is_one_of_squares_of_size_four(self):
        for square in squares_beginning_in_order(4):
            found = mate(square)
            self.assertIs(found is not None, plain_has_mate(square))
            if found is not None:
                self.assert_mate(square, found)

    def test_size_one(self):
        self.assertEqual(mate(ONE), ONE)

    def test_beyond_size_seven_is_too_big(self):
        self.assert_mate(turned(7), mate(turned(7)))
        for square in (turned(8), fielded(8, 1), turned(9), turned(9, 2)):
            self.assertRaises(TooBig, mate, square)

    def test_what_is_no_square_is_refused(self):
        for number, wrong in enumerate(wrong_squares() + [turned(8)[:7] + (turned(8)[0],), turned(8)[:7]]):
            with self.subTest(number=number):
                self.assertRaises(BadSquare, mate, wrong)

    def test_the_mates_come_soon(self):
        for square in SEVENS_WITH_MATES + SEVENS_WITHOUT_MATES + (turned(7),):
            for rows in ((0, 1, 2, 3, 4, 5, 6), (6, 5, 4, 3, 2, 1, 0), (3, 6, 1, 0, 5, 2, 4)):
                changed = shuffled(square, rows, rows[::-1], rows)
                self.assertLess(seconds_for(parting, changed), 3)
                self.assertLess(seconds_for(mate, changed), 3)


if __name__ == "__main__":
    unittest.main()

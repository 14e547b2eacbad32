import unittest
from itertools import product

from matesquare.bars import all_marks, bar, is_bar
from matesquare.errors import BadSquare
from tests.samples import (
    FOUR_WITH_CUTS, FOUR_WITHOUT, HUGE, ONE, ORDINARY, SEVENS_WITH_MATES, SIX_WITHOUT, THREE, TWO, Thorny, fielded,
    plain_cuts, plain_marks, seconds_for, shuffled, squares_beginning_in_order, square_of, things_of_other_kinds,
    turned, wrong_squares,
)

# Three corners turn one way, the last one the other way.
SIX_OF_CORNERS = square_of("abcdef/bcaefd/cabfde/defacb/efdbac/fdecba")
WITH_BAR = (
    TWO,
    TWO[::-1],
    turned(6),
    SIX_WITHOUT,
    SIX_OF_CORNERS,
    shuffled(turned(6), (3, 0, 1, 5, 2, 4), (2, 4, 0, 3, 1, 5), (5, 1, 0, 2, 4, 3)),
)
GREAT = (turned(8), fielded(8, 3), turned(9), turned(9, 4))


def come_to_odd(marks):
    return sum(sum(some) for some in marks) % 2 == 1


def plain_bars(square):
    return [marks for marks in plain_marks(square) if come_to_odd(marks)]


def with_mark(marks, which, place, mark):
    changed = [list(some) for some in marks]
    changed[which][place] = mark
    return tuple(tuple(some) for some in changed)


def wrong_bars(marks):
    """Things that are no bar, made of one, of two or more rows."""
    rows, columns, letters = marks
    one = next(place for place, mark in enumerate(rows) if mark == 1)
    nought = next(place for place, mark in enumerate(columns) if mark == 0)
    wrong = things_of_other_kinds() + [0, 1, HUGE]
    wrong += [(thing, thing, thing) for thing in things_of_other_kinds()]
    wrong += [(rows, columns, thing) for thing in things_of_other_kinds()]
    wrong += [with_mark(marks, 0, one, thing) for thing in things_of_other_kinds()]
    wrong += [with_mark(marks, 1, nought, thing) for thing in things_of_other_kinds()]
    wrong += [with_mark(marks, 2, 0, thing) for thing in things_of_other_kinds()]
    return wrong + [
        list(marks),
        [list(some) for some in marks],
        (list(rows), columns, letters),
        (rows, list(columns), letters),
        (rows, columns, list(letters)),
        (rows, columns),
        (rows,),
        (rows, columns, letters, rows),
        (rows, columns, letters, (0,) * len(rows)),
        (rows, columns, letters, ()),
        rows + columns + letters,
        (rows + (0,), columns, letters),
        (rows, columns + (0,), letters),
        (rows, columns, letters + (0,)),
        (rows[:-1], columns, letters),
        (rows, columns[:-1], letters),
        (rows, columns, letters[:-1]),
        ((), (), ()),
        # As even, and as odd in all, as the bar itself, but no marks.
        with_mark(marks, 0, one, 3),
        with_mark(marks, 0, one, -1),
        with_mark(marks, 1, nought, 2),
        with_mark(marks, 1, nought, -2),
        with_mark(marks, 0, one, HUGE + 1),
        with_mark(marks, 1, nought, HUGE),
        with_mark(marks, 0, one, True),
        with_mark(marks, 1, nought, False),
        with_mark(marks, 0, one, 1.0),
        with_mark(marks, 0, one, Thorny()),
        tuple(tuple(bool(mark) for mark in some) for some in marks),
        ("".join(str(mark) for mark in rows), columns, letters),
    ]


class IsBar(unittest.TestCase):
    def test_all_marks_of_small_squares(self):
        for square in (ONE, TWO, TWO[::-1], turned(3), THREE):
            bars = plain_bars(square)
            for marks in product(product((0, 1), repeat=len(square)), repeat=3):
                self.assertIs(is_bar(square, marks), marks in bars)

    def test_all_even_marks(self):
        for square in ORDINARY + WITH_BAR + GREAT:
            for marks in plain_marks(square):
                self.assertIs(is_bar(square, marks), come_to_odd(marks))

    def test_bars_with_one_mark_changed_are_none(self):
        for square in WITH_BAR:
            for marks in plain_bars(square):
                for which, place in product(range(3), range(len(square))):
                    changed = with_mark(marks, which, place, 1 - marks[which][place])
                    self.assertIs(is_bar(square, changed), False)

    def test_odd_in_all_is_not_enough(self):
        for square in (turned(6), SIX_WITHOUT, turned(9)):
            many = len(square)
            self.assertIs(is_bar(square, ((1,) + (0,) * (many - 1), (0,) * many, (0,) * many)), False)

    def test_two_marks_changed_are_odd_in_all_but_not_even(self):
        for square in WITH_BAR[2:]:
            marks = plain_bars(square)[0]
            for which, place in product(range(3), range(1, len(square))):
                changed = with_mark(marks, which, 0, 1 - marks[which][0])
                changed = with_mark(changed, which, place, 1 - changed[which][place])
                self.assertIs(come_to_odd(changed), True)
                self.assertIs(is_bar(square, changed), False)

    def test_a_thing_of_any_kind_is_answered(self):
        for square in WITH_BAR:
            marks = plain_bars(square)[0]
            self.assertIs(is_bar(square, marks), True)
            for number, thing in enumerate(wrong_bars(marks)):
                with self.subTest(square=square, number=number):
                    self.assertIs(is_bar(square, thing), False)
        for square in (ONE, turned(9)):
            for thing in things_of_other_kinds():
                self.assertIs(is_bar(square, thing), False)

    def test_a_bar_of_another_square_is_none(self):
        marks = plain_bars(turned(6))[0]
        self.assertIs(is_bar(turned(6), marks), True)
        self.assertIs(is_bar(SIX_WITHOUT, marks), False)
        self.assertIs(is_bar(TWO, marks), False)
        self.assertIs(is_bar(turned(9), marks), False)

    def test_what_is_no_square_is_refused(self):
        for number, wrong in enumerate(wrong_squares()):
            with self.subTest(number=number):
                self.assertRaises(BadSquare, is_bar, wrong, ((0, 1), (0, 1), (0, 1)))
                self.assertRaises(BadSquare, is_bar, wrong, None)

    def test_a_refused_list_is_not_changed(self):
        marks = [[0, 1], [0, 1], [0, 1]]
        self.assertIs(is_bar(TWO, marks), False)
        self.assertEqual(marks, [[0, 1], [0, 1], [0, 1]])


class AllMarks(unittest.TestCase):
    def test_all_even_ones_rising(self):
        for square in ORDINARY + WITH_BAR + GREAT + SEVENS_WITH_MATES[:2]:
            with self.subTest(square=square):
                marks = all_marks(square)
                self.assertIsInstance(marks, list)
                self.assertEqual(marks, plain_marks(square))
                self.assertEqual(marks, sorted(marks))

    def test_three_marks_at_each_place_of_small_squares(self):
        for many in (1, 2, 3, 4):
            places = list(product(range(many), repeat=2))
            for square in squares_beginning_in_order(many)[:5]:
                even = [
                    (rows, columns, letters)
                    for rows, columns, letters in product(product((0, 1), repeat=many), repeat=3)
                    if all((rows[row] + columns[column] + letters[square[row][column]]) % 2 == 0
                           for row, column in places)
                ]
                self.assertEqual(all_marks(square), even)

    def test_written_out(self):
        self.assertEqual(all_marks(ONE), [
            ((0,), (0,), (0,)), ((0,), (1,), (1,)), ((1,), (0,), (1,)), ((1,), (1,), (0,)),
        ])
        self.assertEqual(all_marks(TWO)[:4], [
            ((0, 0), (0, 0), (0, 0)), ((0, 0), (1, 1), (1, 1)), ((0, 1), (0, 1), (0, 1)), ((0, 1), (1, 0), (1, 0)),
        ])

    def test_marks_are_tuples_of_numbers(self):
        for square in (ONE, TWO, turned(9)):
            for marks in all_marks(square):
                self.assertIsInstance(marks, tuple)
                for some in marks:
                    self.assertIsInstance(some, tuple)
                    for mark in some:
                        self.assertIs(mark.__class__, int)

    def test_how_many(self):
        known = [(ONE, 4), (TWO, 8), (turned(3), 4), (FOUR_WITHOUT, 8), (FOUR_WITH_CUTS, 16), (turned(5), 4),
                 (turned(6), 8), (turned(7), 4), (turned(8), 8), (fielded(8, 1), 32), (turned(9), 4)]
        for square, many in known:
            self.assertEqual(len(all_marks(square)), many)

    def test_what_is_no_square_is_refused(self):
        for number, wrong in enumerate(wrong_squares()):
            with self.subTest(number=number):
                self.assertRaises(BadSquare, all_marks, wrong)

    def test_the_list_is_a_new_one_each_time(self):
        for square in (ONE, TWO, turned(9)):
            before = list(all_marks(square))
            all_marks(square).append("mark")
            all_marks(square).clear()
            self.assertEqual(all_marks(square), before)

    def test_the_marks_come_soon(self):
        for square in GREAT:
            self.assertLess(seconds_for(all_marks, square), 3)
            self.assertLess(seconds_for(bar, square), 3)


class Bar(unittest.TestCase):
    def test_the_first_one(self):
        for square in WITH_BAR:
            with self.subTest(square=square):
                self.assertEqual(bar(square), plain_bars(square)[0])

    def test_none_where_there_is_none(self):
        for square in (ONE, turned(3), FOUR_WITH_CUTS, FOUR_WITHOUT, turned(5)) + SEVENS_WITH_MATES[:2] + GREAT:
            with self.subTest(square=square):
                self.assertEqual(plain_bars(square), [])
                self.assertIsNone(bar(square))

    def test_ordinary_squares(self):
        for square in ORDINARY:
            self.assertEqual(bar(square), (plain_bars(square) + [None])[0])

    def test_written_out(self):
        self.assertEqual(bar(TWO), ((0, 1), (0, 1), (0, 1)))
        self.assertEqual(bar(TWO[::-1]), ((0, 1), (0, 1), (1, 0)))
        self.assertEqual(bar(turned(6)), ((0, 1, 0, 1, 0, 1), (0, 1, 0, 1, 0, 1), (0, 1, 0, 1, 0, 1)))
        self.assertEqual(bar(SIX_WITHOUT), ((0, 0, 0, 1, 1, 1), (0, 0, 0, 1, 1, 1), (0, 0, 0, 1, 1, 1)))

    def test_a_square_with_a_bar_has_no_cut(self):
        for square in ORDINARY + WITH_BAR:
            if bar(square) is not None:
                self.assertEqual(plain_cuts(square), [])

    def test_what_is_no_square_is_refused(self):
        for number, wrong in enumerate(wrong_squares()):
            with self.subTest(number=number):
                self.assertRaises(BadSquare, bar, wrong)


if __name__ == "__main__":
    unittest.main()

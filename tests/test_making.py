import unittest
from itertools import product
from math import gcd

from matesquare.errors import BadNumber, BadSquare, TooBig
from matesquare.making import put_in, turning
from tests.samples import (
    FOUR_WITH_CUTS, FOUR_WITHOUT, HUGE, NINE_WITH_TWOS, ONE, OF_ALL_SIZES, THREE, TWO, Thorny, WithSquares,
    plain_put_in, seconds_for, square_of, squares_beginning_in_order, things_of_other_kinds, turned, wrong_squares,
)

STEPS = {
    1: (1,),
    2: (1,),
    3: (1, 2),
    4: (1, 3),
    5: (1, 2, 3, 4),
    6: (1, 5),
    7: (1, 2, 3, 4, 5, 6),
    8: (1, 3, 5, 7),
    9: (1, 2, 4, 5, 7, 8),
}


def wrong_sizes():
    return things_of_other_kinds() + [0, 10, 11, -1, -5, -9, HUGE, -HUGE, (5,)]


def wrong_steps(many):
    numbers = [0, -1, many, many + 1, 2 * many - 1, 1 - many, -many, 10, HUGE, HUGE + 1, -HUGE, (1,)]
    return things_of_other_kinds() + [number for number in numbers if number not in STEPS[many]]


class Turning(WithSquares):
    def test_each_size_with_each_step(self):
        for many, steps in STEPS.items():
            for step in steps:
                square = turning(many, step)
                self.assert_square(square, many)
                for row, column in product(range(many), repeat=2):
                    self.assertEqual(square[row][column], (column + step * row) % many)

    def test_just_these_steps(self):
        for many, step in product(range(-3, 13), range(-12, 25)):
            if step in STEPS.get(many, ()):
                self.assertEqual(turning(many, step), turned(many, step))
                self.assertEqual(gcd(many, step), 1)
            else:
                self.assertRaises(BadNumber, turning, many, step)

    def test_written_out(self):
        self.assertEqual(turning(1, 1), ONE)
        self.assertEqual(turning(2, 1), TWO)
        self.assertEqual(turning(5, 2), square_of("abcde/cdeab/eabcd/bcdea/deabc"))
        self.assertEqual(turning(9, 4)[:3], square_of("abcdefghi/efghiabcd/iabcdefgh"))

    def test_size_one_has_the_step_one_alone(self):
        self.assertEqual(turning(1, 1), ONE)
        for step in things_of_other_kinds() + [0, 2, 3, -1, HUGE]:
            self.assertRaises(BadNumber, turning, 1, step)

    def test_a_step_with_a_common_divisor_is_refused(self):
        for many, step in ((4, 2), (6, 2), (6, 3), (6, 4), (8, 2), (8, 4), (8, 6), (9, 3), (9, 6)):
            self.assertRaises(BadNumber, turning, many, step)

    def test_what_is_no_size_is_refused(self):
        for number, wrong in enumerate(wrong_sizes()):
            with self.subTest(number=number):
                for step in (1, 3, 0, None, Thorny(), True):
                    self.assertRaises(BadNumber, turning, wrong, step)

    def test_what_is_no_step_is_refused(self):
        for many in range(1, 10):
            for number, wrong in enumerate(wrong_steps(many)):
                with self.subTest(many=many, number=number):
                    self.assertRaises(BadNumber, turning, many, wrong)


class PutIn(WithSquares):
    def test_all_sizes(self):
        for one, other in product(OF_ALL_SIZES, repeat=2):
            if len(one) * len(other) <= 9:
                with self.subTest(one=one, other=other):
                    square = put_in(one, other)
                    self.assert_square(square, len(one) * len(other))
                    self.assertEqual(square, plain_put_in(one, other))
            else:
                self.assertRaises(TooBig, put_in, one, other)

    def test_a_copy_of_the_second_one_for_each_place_of_the_first_one(self):
        small = [square for many in (1, 2, 3, 4) for square in squares_beginning_in_order(many)]
        small += [square[::-1] for square in small]
        for one, other in product(small, repeat=2):
            many = len(other)
            if len(one) * many > 9:
                continue
            square = put_in(one, other)
            for row, column in product(range(len(one)), repeat=2):
                copy = [line[column * many:column * many + many] for line in square[row * many:row * many + many]]
                on = one[row][column] * many
                self.assertEqual(copy, [tuple(letter + on for letter in line) for line in other])

    def test_written_out(self):
        self.assertEqual(put_in(ONE, ONE), ONE)
        self.assertEqual(put_in(TWO, TWO), FOUR_WITH_CUTS)
        self.assertEqual(put_in(TWO, turned(3)), square_of("abcdef/bcaefd/cabfde/defabc/efdbca/fdecab"))
        self.assertEqual(put_in(turned(3), TWO), square_of("abcdef/badcfe/cdefab/dcfeba/efabcd/febadc"))
        self.assertEqual(put_in(THREE, turned(3, 2))[0], square_of("defabcghi")[0])

    def test_with_size_one_nothing_changes(self):
        for square in OF_ALL_SIZES:
            self.assertEqual(put_in(ONE, square), square)
            self.assertEqual(put_in(square, ONE), square)

    def test_just_beyond_size_nine_is_too_big(self):
        for one, other in product(range(1, 10), repeat=2):
            if one * other > 9:
                self.assertRaises(TooBig, put_in, turned(one), turned(other))
            else:
                self.assert_square(put_in(turned(one), turned(other)), one * other)

    def test_what_is_no_square_is_refused_ahead_of_the_size(self):
        for number, wrong in enumerate(wrong_squares()):
            with self.subTest(number=number):
                for right in (ONE, TWO, FOUR_WITHOUT, turned(9), NINE_WITH_TWOS):
                    self.assertRaises(BadSquare, put_in, wrong, right)
                    self.assertRaises(BadSquare, put_in, right, wrong)
                self.assertRaises(BadSquare, put_in, wrong, wrong)
        self.assertRaises(BadSquare, put_in, turned(10), turned(2))
        self.assertRaises(BadSquare, put_in, ONE, turned(10))
        self.assertRaises(BadSquare, put_in, (), turned(9))


class Soon(unittest.TestCase):
    def test_squares_of_size_nine_come_soon(self):
        for step in STEPS[9]:
            self.assertLess(seconds_for(turning, 9, step), 3)
        for one, other in ((turned(3), THREE), (ONE, NINE_WITH_TWOS), (NINE_WITH_TWOS, ONE)):
            self.assertLess(seconds_for(put_in, one, other), 3)


if __name__ == "__main__":
    unittest.main()

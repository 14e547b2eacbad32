import unittest
from itertools import permutations, product
from random import Random

from matesquare.changes import exchanged, least_alike, over, renamed, rings, switched, twos
from matesquare.errors import BadOrder, BadPlace, BadSquare, TooBig
from tests.samples import (
    FIVE_WITH_FEW, FOUR_WITHOUT, FOUR_WITH_CUTS, HUGE, NINE_MIXED, NINE_WITH_TWOS, OF_ALL_SIZES, ONE, SIX_WITHOUT,
    SIX_WITH_CUTS, SIX_WITH_TWOS, THREE, TWO, WITH_TWOS, Thorny, WithSquares, all_renamed, all_squares, fielded,
    plain_exchanged, plain_rings, plain_twos, seconds_for, shuffled, square_of, square_of_digits,
    squares_beginning_in_order, texts_alike, things_of_other_kinds, turned, with_letter, wrong_numbers,
    wrong_orders, wrong_squares,
)

GREAT = tuple(square for square in OF_ALL_SIZES if len(square) > 7)


def some_orders(chance, many, times):
    return [tuple(tuple(chance.sample(range(many), many)) for order in range(3)) for turn in range(times)]


def wrong_twos(square, two):
    """Things that are no two of the square, made of one."""
    many = len(square)
    wrong = things_of_other_kinds() + [0, 1, HUGE]
    for place, number in enumerate(two):
        others = things_of_other_kinds() + [-1, many, HUGE, -HUGE, number - many]
        wrong += [two[:place] + (other,) + two[place + 1:] for other in others]
        wrong += [two[:place] + two[place + 1:]]
        if number < 2:
            wrong += [two[:place] + (bool(number),) + two[place + 1:]]
    one, other, left, right = two
    return wrong + [
        list(two),
        "".join(str(number) for number in two),
        two + (0,),
        two + two,
        (two,),
        (two[:2], two[2:]),
        (other, one, left, right),
        (one, other, right, left),
        (other, one, right, left),
        (one, one, left, right),
        (one, other, left, left),
        (other, other, right, right),
        tuple(float(number) for number in two),
        tuple(number - many for number in two),
        (Thorny(), Thorny(), Thorny(), Thorny()),
    ]


class Renamed(WithSquares):
    def test_all_orders_of_small_squares(self):
        for square in (ONE, TWO, turned(3), THREE):
            orders = list(permutations(range(len(square))))
            for rows, columns, letters in product(orders, repeat=3):
                found = renamed(square, rows, columns, letters)
                self.assert_square(found, len(square))
                for row, column in product(range(len(square)), repeat=2):
                    self.assertEqual(found[row][column], letters[square[rows[row]][columns[column]]])

    def test_some_orders_of_squares_of_all_sizes(self):
        chance = Random(1)
        for square in OF_ALL_SIZES:
            for orders in some_orders(chance, len(square), 5):
                found = renamed(square, *orders)
                self.assert_square(found, len(square))
                self.assertEqual(found, shuffled(square, *orders))

    def test_orders_that_lead_each_number_to_itself_change_nothing(self):
        for square in OF_ALL_SIZES:
            same = tuple(range(len(square)))
            self.assertEqual(renamed(square, same, same, same), square)

    def test_written_out(self):
        square = square_of("abc/bca/cab")
        self.assertEqual(renamed(ONE, (0,), (0,), (0,)), ONE)
        self.assertEqual(renamed(square, (1, 2, 0), (0, 1, 2), (0, 1, 2)), square_of("bca/cab/abc"))
        self.assertEqual(renamed(square, (0, 1, 2), (2, 0, 1), (0, 1, 2)), square_of("cab/abc/bca"))
        self.assertEqual(renamed(square, (0, 1, 2), (0, 1, 2), (1, 2, 0)), square_of("bca/cab/abc"))
        # The letters are led on, not sought: a becomes c, b becomes a.
        self.assertEqual(renamed(square, (0, 2, 1), (0, 1, 2), (2, 0, 1)), square_of("cab/bca/abc"))

    def test_what_is_no_order_is_refused(self):
        for square in (ONE, TWO, THREE, FOUR_WITHOUT, turned(9)):
            same = tuple(range(len(square)))
            for number, wrong in enumerate(wrong_orders(len(square))):
                with self.subTest(size=len(square), number=number):
                    self.assertRaises(BadOrder, renamed, square, wrong, same, same)
                    self.assertRaises(BadOrder, renamed, square, same, wrong, same)
                    self.assertRaises(BadOrder, renamed, square, same, same, wrong)
                    self.assertRaises(BadOrder, renamed, square, wrong, wrong, wrong)

    def test_orders_of_another_size_are_refused(self):
        for many, other in product(range(1, 10), repeat=2):
            same, wrong = tuple(range(many)), tuple(range(other))
            for orders in ((wrong, same, same), (same, wrong, same), (same, same, wrong)):
                if many != other:
                    self.assertRaises(BadOrder, renamed, turned(many), *orders)

    def test_the_square_is_refused_ahead_of_the_orders(self):
        for number, wrong in enumerate(wrong_squares()):
            with self.subTest(number=number):
                for order in ((0,), (0, 1), (0, 1, 2), tuple(range(9)), None, Thorny(), ()):
                    self.assertRaises(BadSquare, renamed, wrong, order, order, order)


class Exchanged(WithSquares):
    def test_each_order_of_squares_of_all_sizes(self):
        for square in OF_ALL_SIZES:
            for order in permutations(range(3)):
                with self.subTest(square=square, order=order):
                    found = exchanged(square, order)
                    self.assert_square(found, len(square))
                    self.assertEqual(found, plain_exchanged(square, order))

    def test_each_place_with_its_letter(self):
        for square in all_squares(3) + squares_beginning_in_order(4) + [NINE_MIXED, NINE_WITH_TWOS]:
            for first, second, third in permutations(range(3)):
                found = exchanged(square, (first, second, third))
                for row, column in product(range(len(square)), repeat=2):
                    three = (row, column, square[row][column])
                    self.assertEqual(found[three[first]][three[second]], three[third])

    def test_written_out(self):
        square = square_of("abcde/cdeab/eabcd/bcdea/deabc")
        self.assertEqual(exchanged(square, (0, 1, 2)), square)
        self.assertEqual(exchanged(square, (0, 2, 1)), square_of("abcde/deabc/bcdea/eabcd/cdeab"))
        self.assertEqual(exchanged(square, (1, 0, 2)), square_of("acebd/bdace/cebda/daceb/ebdac"))
        # In the row of a column and the column of a letter stands the row in which the letter was in that column.
        self.assertEqual(exchanged(square, (1, 2, 0)), square_of("adbec/cadbe/ecadb/becad/dbeca"))
        self.assertEqual(exchanged(square, (2, 0, 1)), square_of("adbec/becad/cadbe/dbeca/ecadb"))
        self.assertEqual(exchanged(square, (2, 1, 0)), square_of("acebd/daceb/bdace/ebdac/cebda"))
        self.assertEqual(exchanged(ONE, (2, 0, 1)), ONE)

    def test_it_goes_one_way_and_back(self):
        for square in OF_ALL_SIZES:
            self.assertEqual(exchanged(exchanged(square, (1, 2, 0)), (2, 0, 1)), square)
            self.assertEqual(exchanged(exchanged(square, (1, 2, 0)), (1, 2, 0)), exchanged(square, (2, 0, 1)))
            for order in ((1, 0, 2), (2, 1, 0), (0, 2, 1)):
                self.assertEqual(exchanged(exchanged(square, order), order), square)

    def test_what_is_no_order_of_three_numbers_is_refused(self):
        for square in (ONE, TWO, THREE, FOUR_WITHOUT, turned(9)):
            for number, wrong in enumerate(wrong_orders(3)):
                with self.subTest(size=len(square), number=number):
                    self.assertRaises(BadOrder, exchanged, square, wrong)
        for many in (1, 2, 4, 5, 6, 7, 8, 9):
            for length in (1, 2, 4, 5, 6, 7, 8, 9):
                self.assertRaises(BadOrder, exchanged, turned(many), tuple(range(length)))

    def test_all_tuples_of_few_numbers(self):
        for length in range(5):
            for numbers in product(range(-1, 4), repeat=length):
                if sorted(numbers) != [0, 1, 2]:
                    self.assertRaises(BadOrder, exchanged, THREE, numbers)

    def test_the_square_is_refused_ahead_of_the_order(self):
        for number, wrong in enumerate(wrong_squares()):
            with self.subTest(number=number):
                for order in ((0, 1, 2), (2, 0, 1), (0, 1), None, Thorny()):
                    self.assertRaises(BadSquare, exchanged, wrong, order)


class Over(WithSquares):
    def test_rows_are_columns(self):
        for square in OF_ALL_SIZES + tuple(all_squares(3)) + tuple(squares_beginning_in_order(4)):
            found = over(square)
            self.assert_square(found, len(square))
            for row, column in product(range(len(square)), repeat=2):
                self.assertEqual(found[column][row], square[row][column])

    def test_written_out(self):
        self.assertEqual(over(ONE), ONE)
        self.assertEqual(over(square_of("abcd/cdab/badc/dcba")), square_of("acbd/bdac/cadb/dbca"))

    def test_it_is_one_of_the_exchanges(self):
        for square in OF_ALL_SIZES:
            self.assertEqual(over(square), exchanged(square, (1, 0, 2)))
            self.assertEqual(over(over(square)), square)

    def test_what_is_no_square_is_refused(self):
        for number, wrong in enumerate(wrong_squares()):
            with self.subTest(number=number):
                self.assertRaises(BadSquare, over, wrong)


class Twos(unittest.TestCase):
    def test_all_of_them_rising(self):
        for square in OF_ALL_SIZES + tuple(all_squares(3)) + tuple(squares_beginning_in_order(4)):
            with self.subTest(square=square):
                found = twos(square)
                self.assertIs(found.__class__, list)
                self.assertEqual(found, plain_twos(square))
                self.assertEqual(found, sorted(found))
                for two in found:
                    self.assertIs(two.__class__, tuple)

    def test_written_out(self):
        self.assertEqual(twos(ONE), [])
        self.assertEqual(twos(TWO), [(0, 1, 0, 1)])
        self.assertEqual(twos(turned(3)), [])
        self.assertEqual(twos(FOUR_WITH_CUTS), [
            (0, 1, 0, 1), (0, 1, 2, 3), (0, 2, 0, 2), (0, 2, 1, 3), (0, 3, 0, 3), (0, 3, 1, 2),
            (1, 2, 0, 3), (1, 2, 1, 2), (1, 3, 0, 2), (1, 3, 1, 3), (2, 3, 0, 1), (2, 3, 2, 3),
        ])
        self.assertEqual(twos(FOUR_WITHOUT), [(0, 2, 0, 2), (0, 2, 1, 3), (1, 3, 0, 2), (1, 3, 1, 3)])

    def test_how_many(self):
        known = [(SIX_WITH_TWOS, 19), (turned(7), 0), (turned(8), 16), (fielded(8, 1), 112), (turned(9), 0),
                 (NINE_WITH_TWOS, 19)]
        for square, many in known:
            self.assertEqual(len(twos(square)), many)

    def test_what_is_no_square_is_refused(self):
        for number, wrong in enumerate(wrong_squares()):
            with self.subTest(number=number):
                self.assertRaises(BadSquare, twos, wrong)

    def test_the_list_is_a_new_one_each_time(self):
        for square in (ONE, turned(9)) + WITH_TWOS:
            before = list(twos(square))
            twos(square).append("mark")
            twos(square).clear()
            self.assertEqual(twos(square), before)


class Switched(WithSquares):
    def assert_switched(self, square, two):
        found = switched(square, two)
        self.assert_square(found, len(square))
        one, other, left, right = two
        wanted = with_letter(square, one, left, square[one][right])
        wanted = with_letter(wanted, one, right, square[one][left])
        wanted = with_letter(wanted, other, left, square[other][right])
        wanted = with_letter(wanted, other, right, square[other][left])
        self.assertEqual(found, wanted)
        self.assertEqual(switched(found, two), square)

    def test_each_two(self):
        for square in OF_ALL_SIZES:
            for two in plain_twos(square):
                self.assert_switched(square, two)

    def test_each_tuple_of_four_numbers_of_small_squares(self):
        for square in (ONE, TWO, THREE, FOUR_WITH_CUTS, FOUR_WITHOUT, turned(5), FIVE_WITH_FEW):
            right = plain_twos(square)
            for numbers in product(range(-1, len(square) + 1), repeat=4):
                if numbers in right:
                    self.assert_switched(square, numbers)
                else:
                    self.assertRaises(BadPlace, switched, square, numbers)

    def test_each_tuple_of_four_numbers_of_a_square_of_size_nine(self):
        right = plain_twos(NINE_WITH_TWOS)
        for numbers in product(range(9), repeat=4):
            if numbers not in right:
                self.assertRaises(BadPlace, switched, NINE_WITH_TWOS, numbers)

    def test_written_out(self):
        self.assertEqual(switched(TWO, (0, 1, 0, 1)), square_of("ba/ab"))
        self.assertEqual(switched(FOUR_WITHOUT, (1, 3, 0, 2)), square_of("abcd/dcba/cdab/badc"))

    def test_what_is_no_two_is_refused(self):
        for square in WITH_TWOS:
            for two in plain_twos(square)[:2]:
                for number, wrong in enumerate(wrong_twos(square, two)):
                    with self.subTest(size=len(square), two=two, number=number):
                        self.assertRaises(BadPlace, switched, square, wrong)
        for square in (ONE, turned(3), turned(9)):
            for wrong in wrong_twos(square, (0, 1, 0, 1)) + [(0, 1, 0, 1), (0, 0, 0, 0), (1, 2, 1, 2)]:
                self.assertRaises(BadPlace, switched, square, wrong)

    def test_a_two_of_another_square_is_refused(self):
        self.assertRaises(BadPlace, switched, FOUR_WITHOUT, (0, 1, 0, 1))
        self.assertRaises(BadPlace, switched, TWO, (0, 2, 0, 2))

    def test_the_square_is_refused_ahead_of_the_two(self):
        for number, wrong in enumerate(wrong_squares()):
            with self.subTest(number=number):
                for two in ((0, 1, 0, 1), (0, 0, 0, 0), (), None, Thorny()):
                    self.assertRaises(BadSquare, switched, wrong, two)


class Rings(unittest.TestCase):
    def test_each_two_rows(self):
        for square in OF_ALL_SIZES + tuple(all_squares(3)) + tuple(squares_beginning_in_order(4)):
            for one, two in permutations(range(len(square)), 2):
                with self.subTest(square=square, one=one, two=two):
                    found = rings(square, one, two)
                    self.assertIs(found.__class__, list)
                    for ring in found:
                        self.assertIs(ring.__class__, list)
                    self.assertEqual(found, plain_rings(square, one, two))

    def test_what_rings_are(self):
        for square in OF_ALL_SIZES:
            for one, two in permutations(range(len(square)), 2):
                found = rings(square, one, two)
                self.assertEqual(sorted(sum(found, [])), list(range(len(square))))
                self.assertEqual([min(ring) for ring in found], [ring[0] for ring in found])
                self.assertEqual(found, sorted(found))
                for ring in found:
                    for here, there in zip(ring, ring[1:] + ring[:1]):
                        self.assertEqual(square[one][there], square[two][here])

    def test_written_out(self):
        self.assertEqual(rings(TWO, 0, 1), [[0, 1]])
        self.assertEqual(rings(turned(5), 0, 1), [[0, 1, 2, 3, 4]])
        self.assertEqual(rings(turned(5), 1, 0), [[0, 4, 3, 2, 1]])
        self.assertEqual(rings(turned(5), 1, 3), [[0, 2, 4, 1, 3]])
        self.assertEqual(rings(turned(6), 0, 2), [[0, 2, 4], [1, 3, 5]])
        self.assertEqual(rings(turned(6), 2, 0), [[0, 4, 2], [1, 5, 3]])
        self.assertEqual(rings(FOUR_WITH_CUTS, 0, 3), [[0, 3], [1, 2]])
        self.assertEqual(rings(turned(9), 0, 3), [[0, 3, 6], [1, 4, 7], [2, 5, 8]])

    def test_rings_of_two_columns_are_twos(self):
        for square in OF_ALL_SIZES:
            pairs = [(one, two) for one, two in permutations(range(len(square)), 2) if one < two]
            found = [pair + tuple(ring) for pair in pairs for ring in rings(square, *pair) if len(ring) == 2]
            self.assertEqual(found, twos(square))

    def test_alike_rows_are_refused(self):
        for square in OF_ALL_SIZES:
            for row in range(len(square)):
                self.assertRaises(BadPlace, rings, square, row, row)

    def test_what_is_no_number_of_a_row_is_refused(self):
        for square in (ONE, TWO, THREE, turned(9)):
            for number, wrong in enumerate(wrong_numbers(len(square))):
                with self.subTest(size=len(square), number=number):
                    for row in range(min(2, len(square))):
                        self.assertRaises(BadPlace, rings, square, wrong, row)
                        self.assertRaises(BadPlace, rings, square, row, wrong)
                    self.assertRaises(BadPlace, rings, square, wrong, wrong)

    def test_the_square_is_refused_ahead_of_the_rows(self):
        for number, wrong in enumerate(wrong_squares()):
            with self.subTest(number=number):
                for one, two in ((0, 1), (0, 0), (None, 1), (1, -1), (Thorny(), Thorny())):
                    self.assertRaises(BadSquare, rings, wrong, one, two)

    def test_the_lists_are_new_ones_each_time(self):
        for square in (TWO, turned(6), NINE_WITH_TWOS):
            for one, two in permutations(range(len(square)), 2):
                first = rings(square, one, two)
                first[0].append("mark")
                first[-1].clear()
                first.append([])
                self.assertEqual(rings(square, one, two), plain_rings(square, one, two))
                rings(square, one, two).clear()
                self.assertEqual(rings(square, one, two), plain_rings(square, one, two))


class LeastAlike(WithSquares):
    def test_the_least_of_all_renamed_ones_of_small_squares(self):
        for many in (1, 2, 3):
            for square in all_squares(many):
                found = least_alike(square)
                self.assert_square(found, many)
                self.assertEqual(found, min(all_renamed(square)))
        for square in squares_beginning_in_order(4):
            self.assertEqual(least_alike(square), min(all_renamed(square)))

    def test_all_squares_of_size_four(self):
        least = {alike: min(some) for some in map(all_renamed, (FOUR_WITHOUT, FOUR_WITH_CUTS)) for alike in some}
        self.assertEqual(len(least), 576)
        for square, wanted in least.items():
            self.assertEqual(least_alike(square), wanted)

    def test_squares_of_size_five(self):
        chance = Random(2)
        kinds = [texts_alike(square) for square in (turned(5), FIVE_WITH_FEW)]
        # Together these are all squares of size 5.
        self.assertEqual([len(kind) for kind in kinds], [17280, 144000])
        for kind in kinds:
            least = square_of_digits(min(kind), 5)
            for text in chance.sample(sorted(kind), 100) + [min(kind), max(kind)]:
                self.assertEqual(least_alike(square_of_digits(text, 5)), least)

    def test_renaming_does_not_change_it(self):
        chance = Random(3)
        for square in squares_beginning_in_order(5)[::12]:
            found = least_alike(square)
            self.assert_square(found, 5)
            self.assertLessEqual(found, square)
            self.assertEqual(least_alike(found), found)
            for orders in some_orders(chance, 5, 2):
                self.assertEqual(least_alike(shuffled(square, *orders)), found)

    def test_written_out(self):
        self.assertEqual(least_alike(ONE), ONE)
        self.assertEqual(least_alike(TWO[::-1]), TWO)
        self.assertEqual(least_alike(THREE), turned(3))
        self.assertEqual(least_alike(FOUR_WITH_CUTS), FOUR_WITH_CUTS)
        self.assertEqual(least_alike(FOUR_WITHOUT), square_of("abcd/badc/cdba/dcab"))
        self.assertEqual(least_alike(turned(5, 3)), turned(5))
        self.assertEqual(least_alike(FIVE_WITH_FEW), square_of("abcde/badec/cdeab/debca/ecabd"))

    def test_beyond_size_five_is_too_big(self):
        for square in (turned(6), SIX_WITH_CUTS, SIX_WITHOUT, turned(7)) + GREAT:
            self.assertRaises(TooBig, least_alike, square)

    def test_what_is_no_square_is_refused(self):
        for number, wrong in enumerate(wrong_squares() + [turned(6)[:5], turned(6)[:5] + turned(6)[:1]]):
            with self.subTest(number=number):
                self.assertRaises(BadSquare, least_alike, wrong)


class Soon(unittest.TestCase):
    def test_the_least_alike_one_comes_soon(self):
        for square in squares_beginning_in_order(5)[::20] + [turned(5, step) for step in (1, 2, 3, 4)]:
            self.assertLess(seconds_for(least_alike, square), 3)

    def test_changes_of_size_nine_come_soon(self):
        order = (3, 0, 6, 1, 8, 5, 2, 7, 4)
        for square in (turned(9), NINE_MIXED, NINE_WITH_TWOS):
            self.assertLess(seconds_for(renamed, square, order, order, order), 3)
            self.assertLess(seconds_for(exchanged, square, (1, 2, 0)), 3)
            self.assertLess(seconds_for(over, square), 3)
            self.assertLess(seconds_for(twos, square), 3)
            self.assertLess(seconds_for(rings, square, 0, 8), 3)
        for two in plain_twos(NINE_WITH_TWOS):
            self.assertLess(seconds_for(switched, NINE_WITH_TWOS, two), 3)


if __name__ == "__main__":
    unittest.main()

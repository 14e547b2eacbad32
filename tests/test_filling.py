import unittest
from collections import Counter
from itertools import chain, permutations, product
from random import Random

from matesquare.errors import BadBlock, BadNumber
from matesquare.filling import filled, scarce
from tests.samples import (
    HUGE, ONE, ORDINARY, TWO, Thorny, all_squares, corner_of, fielded, plain_can_be_filled, seconds_for, shuffled,
    some_block, things_of_other_kinds, turned,
)

GREAT = (turned(8, 3), fielded(8, 5), turned(9), turned(9, 7),
         shuffled(turned(9), (3, 0, 6, 1, 8, 5, 2, 7, 4), (2, 6, 4, 7, 0, 3, 8, 1, 5), (5, 1, 0, 8, 6, 2, 7, 4, 3)))


def plain_scarce(many, block):
    counts = Counter(chain.from_iterable(block))
    return [letter for letter in range(many) if counts[letter] + many < len(block) + len(block[0])]


def all_blocks(many, height, length):
    rows = list(permutations(range(many), length))
    blocks = [(row,) for row in rows]
    for turn in range(height - 1):
        blocks = [
            block + (row,)
            for block in blocks
            for row in rows
            if all(letter not in column for letter, column in zip(row, zip(*block)))
        ]
    return blocks


def block_of_few(many, height, length, letters):
    """A block in which as few letters as can be stand, as often as can be."""
    few = max(height, length)
    return tuple(tuple(letters[(row + column) % few] for column in range(length)) for row in range(height))


def sizes_and_shapes(sizes):
    for many in sizes:
        for height, length in product(range(1, many + 1), repeat=2):
            yield many, height, length


def wrong_numbers_for_a_size():
    return things_of_other_kinds() + [0, 10, 11, -1, -9, HUGE, -HUGE, (1,), ((0,),)]


def wrong_blocks():
    """Each with a size for which it is none."""
    for many in (1, 2, 3, 9):
        for thing in things_of_other_kinds():
            yield many, thing
            yield many, (thing,)
            yield many, ((thing,),)
            yield many, ((0,), thing)
            yield many, ((0, thing),)
            yield many, ((0,), (thing,))
        for thing in (0, 1, HUGE, (0,), ((),), ((), ()), ((-1,),), ((many,),), ((HUGE,),), ((-HUGE,),), ((0, 0),),
                      ((0,), (0,)), [[0]], [(0,)], ([0],), "a", ("a",), ("0",), (("0",),), (((0,),),)):
            yield many, thing
        yield many, corner_of(turned(10), 1, many + 1)
        yield many, corner_of(turned(10), many + 1, 1)
        yield many, tuple((letter,) for letter in range(many)) + ((0,),)
        yield many, (tuple(range(many)) + (0,),)
        yield many, tuple(list(row) for row in turned(many))
        yield many, list(turned(many))
        yield many, ((0,),) * (many + 1)
    yield from (
        (2, ((0,), (1, 0))),
        (2, ((0, 1), (1,))),
        (2, ((0, 1), ())),
        (2, ((), (0, 1))),
        (2, ((0, 1), (0, 1))),
        (2, ((0, 1), (1, 1))),
        (2, ((0, True),)),
        (2, ((False, 1),)),
        (2, ((0, 1), (True, 0))),
        (2, ((0, 1), [1, 0])),
        (3, ((0, 1, 2), (1, 2, 0), (2, 0, 0))),
        (3, ((0, 1, 2), (1, 2, 0), (2, 0, 1), (0, 1, 2))),
        (3, ((0, 1), (1, 2), (0, 0))),
        (3, ((0, 1), (1, 2), (0, 2))),
        (3, ((0, 1), (1, 3))),
        (3, ((0, 1), (1, -1))),
        (3, ((0, 1), (1, 2.0))),
        (3, ((0, 1), (1, "c"))),
        (3, ((0, 1), (1, None))),
        (3, ((0, 1), (1, Thorny()))),
        (3, ((0, 1), (1, [2]))),
        (8, turned(9)),
        (8, corner_of(turned(9), 8, 8)),
        (8, turned(9)[:1]),
        (9, turned(10)),
        (9, turned(9)[:8] + (turned(9)[0],)),
        (9, turned(9) + ((0,) * 9,)),
    )


class Scarce(unittest.TestCase):
    def test_all_blocks_of_small_sizes(self):
        for many, height, length in sizes_and_shapes((1, 2, 3, 4)):
            for block in all_blocks(many, height, length):
                self.assertEqual(scarce(many, block), plain_scarce(many, block))

    def test_some_blocks_of_each_shape(self):
        chance = Random(1)
        for many, height, length in sizes_and_shapes((5, 6, 7, 8, 9)):
            names = chance.sample(range(many), many)
            for block in (some_block(chance, many, height, length), block_of_few(many, height, length, names)):
                letters = scarce(many, block)
                self.assertIsInstance(letters, list)
                self.assertEqual(letters, plain_scarce(many, block))

    def test_written_out(self):
        self.assertEqual(scarce(1, ONE), [])
        self.assertEqual(scarce(2, ((0,),)), [])
        self.assertEqual(scarce(3, ((0, 1), (1, 0))), [2])
        self.assertEqual(scarce(3, ((2, 1), (1, 2))), [0])
        self.assertEqual(scarce(4, ((0, 1), (1, 0))), [])
        self.assertEqual(scarce(4, ((3, 1, 2), (1, 3, 0))), [])
        self.assertEqual(scarce(4, ((1, 2, 3), (2, 3, 1))), [0])
        self.assertEqual(scarce(4, ((1, 2, 3), (2, 3, 1), (3, 1, 2))), [0])
        self.assertEqual(scarce(4, ((1, 2, 3), (2, 3, 0), (3, 1, 2))), [0])
        self.assertEqual(scarce(5, block_of_few(5, 3, 3, (3, 0, 2))), [1, 4])
        self.assertEqual(scarce(9, block_of_few(9, 5, 5, range(5))), [5, 6, 7, 8])
        self.assertEqual(scarce(9, turned(9)), [])

    def test_the_size_counts(self):
        block = ((0, 1), (1, 0))
        self.assertEqual([scarce(many, block) for many in range(2, 10)], [[], [2]] + [[]] * 6)

    def test_what_is_no_size_is_refused_ahead_of_the_block(self):
        for number, many in enumerate(wrong_numbers_for_a_size()):
            with self.subTest(number=number):
                for block in (((0,),), turned(9), turned(10), (), None, Thorny()):
                    self.assertRaises(BadNumber, scarce, many, block)

    def test_what_is_no_block_is_refused(self):
        for number, (many, block) in enumerate(wrong_blocks()):
            with self.subTest(number=number):
                self.assertRaises(BadBlock, scarce, many, block)

    def test_the_list_is_a_new_one_each_time(self):
        for many, block in ((3, ((0, 1), (1, 0))), (2, TWO)):
            before = list(scarce(many, block))
            scarce(many, block).append("mark")
            scarce(many, block).clear()
            self.assertEqual(scarce(many, block), before)


class Filled(unittest.TestCase):
    def assert_filled(self, many, block):
        square = filled(many, block)
        self.assertIsInstance(square, tuple)
        self.assertEqual(len(square), many)
        for row in square:
            self.assertIsInstance(row, tuple)
        for line in list(square) + list(zip(*square)):
            self.assertEqual(sorted(line), list(range(many)))
        self.assertEqual(corner_of(square, len(block), len(block[0])), block)

    def assert_filled_or_none(self, many, block, can_be):
        self.assertIs(can_be, not plain_scarce(many, block))
        if can_be:
            self.assert_filled(many, block)
        else:
            self.assertIsNone(filled(many, block))

    def test_all_blocks_of_small_sizes(self):
        for many, height, length in sizes_and_shapes((1, 2, 3, 4)):
            corners = {corner_of(square, height, length) for square in all_squares(many)}
            for block in all_blocks(many, height, length):
                self.assert_filled_or_none(many, block, block in corners)

    def test_some_blocks_of_middle_sizes(self):
        chance = Random(2)
        for many, height, length in sizes_and_shapes((5, 6)):
            for turn in range(20):
                block = some_block(chance, many, height, length)
                self.assert_filled_or_none(many, block, plain_can_be_filled(many, block))
            block = block_of_few(many, height, length, chance.sample(range(many), many))
            self.assert_filled_or_none(many, block, not plain_scarce(many, block))

    def test_some_blocks_of_great_sizes(self):
        chance = Random(3)
        for many, height, length in sizes_and_shapes((7, 8, 9)):
            for block in (some_block(chance, many, height, length),
                          block_of_few(many, height, length, chance.sample(range(many), many))):
                self.assert_filled_or_none(many, block, not plain_scarce(many, block))

    def test_corners_of_squares(self):
        for square in ORDINARY + GREAT:
            for height, length in product(range(1, len(square) + 1), repeat=2):
                self.assert_filled(len(square), corner_of(square, height, length))

    def test_corners_of_squares_that_were_filled_by_chance(self):
        chance = Random(4)
        for turn in range(5):
            square = filled(9, some_block(chance, 9, 4, 4))
            orders = [chance.sample(range(9), 9) for order in range(3)]
            square = shuffled(square, *orders)
            for height, length in product(range(1, 10), repeat=2):
                self.assert_filled(9, corner_of(square, height, length))

    def test_letters_that_stand_just_often_enough(self):
        # Four by four of six: rows and columns less the size are two, and a letter stands just twice.
        block = ((0, 1, 2, 3), (1, 0, 3, 2), (4, 5, 0, 1), (5, 4, 1, 0))
        self.assertEqual(Counter(chain.from_iterable(block)), {0: 4, 1: 4, 2: 2, 3: 2, 4: 2, 5: 2})
        self.assert_filled(6, block)
        self.assertIsNone(filled(6, block[:3] + ((3, 2, 1, 0),)))

    def test_blocks_of_one_row_one_column_and_the_whole_size(self):
        for many in range(1, 10):
            row = tuple(range(many - 1, -1, -1))
            for length in range(1, many + 1):
                self.assert_filled(many, (row[:length],))
                self.assert_filled(many, tuple((letter,) for letter in row[:length]))
                self.assert_filled(many, turned(many)[:length])
                self.assert_filled(many, corner_of(turned(many), many, length))
            self.assertEqual(filled(many, turned(many)), turned(many))

    def test_written_out(self):
        self.assertEqual(filled(1, ((0,),)), ONE)
        self.assertEqual(filled(2, ((1,),)), ((1, 0), (0, 1)))
        self.assertEqual(filled(3, ((2, 0), (1, 2))), ((2, 0, 1), (1, 2, 0), (0, 1, 2)))
        self.assertIsNone(filled(3, ((0, 1), (1, 0))))

    def test_what_is_no_size_is_refused_ahead_of_the_block(self):
        for number, many in enumerate(wrong_numbers_for_a_size()):
            with self.subTest(number=number):
                for block in (((0,),), turned(9), turned(10), (), None, Thorny()):
                    self.assertRaises(BadNumber, filled, many, block)

    def test_what_is_no_block_is_refused(self):
        for number, (many, block) in enumerate(wrong_blocks()):
            with self.subTest(number=number):
                self.assertRaises(BadBlock, filled, many, block)

    def test_a_refused_list_is_not_changed(self):
        block = [[0, 1], [1, 0]]
        self.assertRaises(BadBlock, filled, 4, block)
        self.assertRaises(BadBlock, scarce, 4, block)
        self.assertEqual(block, [[0, 1], [1, 0]])

    def test_the_squares_come_soon(self):
        chance = Random(5)
        for many, height, length in sizes_and_shapes((9,)):
            self.assertLess(seconds_for(filled, 9, some_block(chance, many, height, length)), 3)
            self.assertLess(seconds_for(filled, 9, block_of_few(many, height, length, range(9))), 3)


if __name__ == "__main__":
    unittest.main()

"""What is promised over the whole program, and how its parts go together."""

import copy
import inspect
import unittest
from importlib import import_module
from itertools import permutations, product
from random import Random

from matesquare.bars import all_marks, bar, is_bar
from matesquare.changes import exchanged, least_alike, over, renamed, rings, switched, twos
from matesquare.cuts import all_cuts, cuts_at, is_cut, letters_on, most_apart
from matesquare.errors import (
    BadBlock, BadCut, BadNumber, BadOrder, BadPlace, BadSquare, BadText, SquareError, TooBig,
)
from matesquare.filling import filled, scarce
from matesquare.making import put_in, turning
from matesquare.mates import are_mates, clashes, cuts_by, mate, parting
from matesquare.squares import checked, letter_at, places_of
from matesquare.texts import read, shown
from tests.samples import (
    FIVE_WITH_FEW, FOUR_WITH_CUTS, NINE_WITH_TWOS, OF_ALL_SIZES, ONE, ORDINARY, SEVENS_WITH_MATES, SIX_WITH_TWOS,
    SIX_WITHOUT, TWO, WITH_TWOS, Thorny, corner_of, plain_can_be_filled, plain_cuts, plain_has_mate,
    some_block, squares_beginning_in_order, turned,
)

INTERFACE = {
    "squares": {"checked": "square", "letter_at": "square row column", "places_of": "square letter"},
    "cuts": {
        "is_cut": "square thing", "all_cuts": "square", "cuts_at": "square row column", "letters_on": "square cut",
        "most_apart": "square",
    },
    "mates": {
        "are_mates": "one other", "clashes": "one other", "cuts_by": "one other", "parting": "square",
        "mate": "square",
    },
    "bars": {"is_bar": "square thing", "all_marks": "square", "bar": "square"},
    "filling": {"scarce": "many block", "filled": "many block"},
    "changes": {
        "renamed": "square rows columns letters", "exchanged": "square order", "over": "square", "twos": "square",
        "switched": "square two", "rings": "square one two", "least_alike": "square",
    },
    "making": {"turning": "many step", "put_in": "one other"},
    "texts": {"shown": "square", "read": "text"},
}

SAME_FIVE = (0, 1, 2, 3, 4)
# Each function of the interface with arguments that it takes.
CALLS = [
    (checked, (turned(9),)),
    (letter_at, (turned(9), 8, 8)),
    (places_of, (NINE_WITH_TWOS, 3)),
    (is_cut, (turned(5), SAME_FIVE)),
    (is_cut, (turned(5), [0, 1, 2, 3, 4])),
    (all_cuts, (turned(5),)),
    (all_cuts, (SIX_WITHOUT,)),
    (cuts_at, (turned(5), 1, 2)),
    (letters_on, (turned(5), SAME_FIVE)),
    (most_apart, (turned(5),)),
    (most_apart, (FIVE_WITH_FEW,)),
    (are_mates, (turned(5), turned(5, 2))),
    (clashes, (turned(5), turned(5))),
    (clashes, (turned(5), turned(5, 2))),
    (cuts_by, (turned(5), turned(5, 2))),
    (parting, (turned(7),)),
    (parting, (SIX_WITHOUT,)),
    (mate, (turned(7),)),
    (is_bar, (TWO, ((0, 1), (0, 1), (0, 1)))),
    (is_bar, (TWO, [[0, 1], [0, 1], [0, 1]])),
    (all_marks, (turned(6),)),
    (bar, (turned(6),)),
    (scarce, (3, ((0, 1), (1, 0)))),
    (scarce, (4, ((0, 1), (1, 0)))),
    (filled, (3, ((0, 1), (1, 0)))),
    (filled, (4, ((0, 1), (1, 0)))),
    (renamed, (turned(5), (1, 0, 2, 3, 4), SAME_FIVE, (4, 3, 2, 1, 0))),
    (exchanged, (turned(5), (1, 2, 0))),
    (over, (turned(5, 2),)),
    (twos, (NINE_WITH_TWOS,)),
    (twos, (turned(9),)),
    (switched, (FOUR_WITH_CUTS, (0, 1, 0, 1))),
    (rings, (NINE_WITH_TWOS, 0, 8)),
    (rings, (turned(6), 0, 3)),
    (least_alike, (FIVE_WITH_FEW,)),
    (turning, (9, 4)),
    (put_in, (turned(3), TWO)),
    (shown, (turned(9),)),
    (read, ("ab/ba",)),
]

NO_SQUARE = ((0, 1), (0, 1))
# Of several refusals that are due the one that the interface names first.
SEVERAL = [
    (BadSquare, letter_at, (NO_SQUARE, 9, None)),
    (BadSquare, places_of, (NO_SQUARE, 9)),
    (BadSquare, cuts_at, (turned(10), 10, 10)),
    (TooBig, cuts_at, (turned(8), 8, 8)),
    (TooBig, cuts_at, (turned(9), True, Thorny())),
    (BadSquare, letters_on, (NO_SQUARE, (0, 0))),
    (BadSquare, all_cuts, (turned(9)[:8],)),
    (BadSquare, most_apart, (turned(9)[:6],)),
    (BadSquare, parting, (turned(9)[:8],)),
    (BadSquare, mate, (turned(10),)),
    (BadNumber, scarce, (0, ())),
    (BadNumber, filled, (10, [[0]])),
    (BadSquare, renamed, (NO_SQUARE, (0,), (1, 1), None)),
    (BadSquare, renamed, (list(TWO), [0, 1], [0, 1], [0, 1])),
    (BadSquare, exchanged, (NO_SQUARE, (0, 1))),
    (BadSquare, switched, (NO_SQUARE, (1, 0, 1, 0))),
    (BadSquare, rings, (NO_SQUARE, 1, 1)),
    (BadSquare, least_alike, (turned(10),)),
    (BadSquare, least_alike, (turned(6)[:5] + turned(6)[:1],)),
    (BadSquare, put_in, (NO_SQUARE, turned(9))),
    (BadSquare, put_in, (turned(9), NO_SQUARE)),
    (BadSquare, put_in, (turned(10), turned(10))),
]

# Each with one refusal that is due, and with things in it that could be changed.
REFUSED = [
    (BadSquare, checked, ([[0, 1], [1, 0]],)),
    (BadSquare, checked, (([0, 1], [1, 0]),)),
    (BadPlace, letter_at, (TWO, [0], [1])),
    (BadPlace, places_of, (TWO, [0])),
    (BadSquare, is_cut, ([[0]], [0])),
    (BadPlace, cuts_at, (TWO, 0, {0: 1})),
    (BadCut, letters_on, (turned(3), [0, 1, 2])),
    (BadSquare, are_mates, (turned(3), [[0, 1, 2], [2, 0, 1], [1, 2, 0]])),
    (BadSquare, clashes, ([[0]], [[0]])),
    (BadSquare, cuts_by, ([[0]], ONE)),
    (BadSquare, all_marks, ([[0, 1], [1, 0]],)),
    (BadNumber, scarce, ([3], [[0]])),
    (BadBlock, scarce, (3, [[0, 1], [1, 0]])),
    (BadBlock, filled, (3, ([0], [1]))),
    (BadOrder, renamed, (TWO, [1, 0], [1, 0], [1, 0])),
    (BadOrder, renamed, (TWO, (1, 0), (1, 0), [1, 0])),
    (BadOrder, exchanged, (TWO, [2, 1, 0])),
    (BadSquare, over, ([[0, 1], [1, 0]],)),
    (BadSquare, twos, ([(0, 1), (1, 0)],)),
    (BadPlace, switched, (TWO, [0, 1, 0, 1])),
    (BadPlace, rings, (TWO, [0], [1])),
    (BadSquare, least_alike, ([[1, 0], [0, 1]],)),
    (BadNumber, turning, ([5], [2])),
    (BadNumber, turning, (5, [2])),
    (BadSquare, put_in, ([[0]], [[0]])),
    (BadSquare, shown, ([[0, 1], [1, 0]],)),
    (BadText, read, (["ab", "ba"],)),
    (BadText, read, (bytearray(b"ab/ba"),)),
]


def spoil(thing):
    """Changes a list, and the lists within it, as a caller may."""
    if isinstance(thing, list):
        for part in thing:
            spoil(part)
        thing.reverse()
        thing.append("mark")
        if len(thing) > 2:
            thing.pop(0)


def walk(chance, square, steps):
    """Squares that come by switching twos and by filling corners up again, one of another."""
    many = len(square)
    for step in range(steps):
        found = twos(square)
        if found and step % 3:
            square = switched(square, chance.choice(found))
        else:
            square = filled(many, corner_of(square, chance.randint(1, many), chance.randint(1, many)))
        square = renamed(square, *(tuple(chance.sample(range(many), many)) for order in range(3)))
        yield square


class Interface(unittest.TestCase):
    def test_names_and_arguments(self):
        for file, functions in INTERFACE.items():
            module = import_module("matesquare." + file)
            for name, arguments in functions.items():
                with self.subTest(file=file, name=name):
                    function = getattr(module, name)
                    self.assertEqual(function.__module__, module.__name__)
                    self.assertEqual(list(inspect.signature(function).parameters), arguments.split())

    def test_arguments_can_be_given_by_name(self):
        self.assertEqual(renamed(letters=(0, 1), columns=(0, 1), rows=(1, 0), square=TWO), TWO[::-1])
        self.assertEqual(rings(two=0, one=1, square=turned(3)), [[0, 2, 1]])
        self.assertEqual(turning(step=2, many=3), turned(3, 2))
        self.assertEqual(put_in(other=ONE, one=TWO), TWO)

    def test_each_function_is_called_here(self):
        names = {name for functions in INTERFACE.values() for name in functions}
        self.assertEqual({function.__name__ for function, arguments in CALLS}, names)


class Kept(unittest.TestCase):
    def test_what_is_told_can_be_changed_and_is_told_again(self):
        before = [copy.deepcopy(function(*arguments)) for function, arguments in CALLS]
        for turn in range(2):
            for function, arguments in CALLS:
                spoil(function(*arguments))
            for (function, arguments), answer in reversed(list(zip(CALLS, before))):
                with self.subTest(function=function.__name__):
                    self.assertEqual(function(*arguments), answer)

    def test_two_answers_share_no_list(self):
        for function, arguments in CALLS:
            one, other = function(*arguments), function(*arguments)
            if isinstance(one, list):
                self.assertIsNot(one, other)
                inner = [part for part in one + other if isinstance(part, list)]
                self.assertEqual(len({id(part) for part in inner}), len(inner))

    def test_nothing_that_is_handed_in_is_changed(self):
        for function, arguments in CALLS:
            before = copy.deepcopy(arguments)
            function(*arguments)
            self.assertEqual(arguments, before)
        for refusal, function, arguments in REFUSED:
            before = copy.deepcopy(arguments)
            self.assertRaises(refusal, function, *arguments)
            self.assertEqual(arguments, before)

    def test_what_is_walked_only_once_is_not_walked(self):
        for refusal, function, arguments in REFUSED:
            for place in range(len(arguments)):
                wrong = iter([0, 1])
                some = arguments[:place] + (wrong,) + arguments[place + 1:]
                self.assertRaises(SquareError, function, *some)
                self.assertEqual(list(wrong), [0, 1])

    def test_the_modules_hold_the_same_afterwards(self):
        modules = [import_module("matesquare." + file) for file in INTERFACE]
        held = [{name: repr(value) for name, value in vars(module).items() if name != "__builtins__"}
                for module in modules]
        for function, arguments in CALLS:
            spoil(function(*arguments))
        for module, before in zip(modules, held):
            now = {name: repr(value) for name, value in vars(module).items() if name != "__builtins__"}
            self.assertEqual(now, before)


class Refusals(unittest.TestCase):
    def assert_refused(self, refusal, function, arguments):
        with self.subTest(function=function.__name__, refusal=refusal.__name__):
            with self.assertRaises(SquareError) as caught:
                function(*arguments)
            self.assertIs(caught.exception.__class__, refusal)

    def test_the_first_named_one_is_told(self):
        for refusal, function, arguments in SEVERAL:
            self.assert_refused(refusal, function, arguments)

    def test_each_is_told_by_its_class(self):
        for refusal, function, arguments in REFUSED:
            self.assert_refused(refusal, function, arguments)

    def test_true_and_false_are_no_numbers(self):
        for refusal, function, arguments in (
            (BadSquare, checked, (((False,),),)),
            (BadSquare, shown, (((False, True), (True, False)),)),
            (BadPlace, letter_at, (TWO, False, 0)),
            (BadPlace, letter_at, (TWO, 0, True)),
            (BadPlace, places_of, (TWO, True)),
            (BadPlace, cuts_at, (TWO, True, 0)),
            (BadPlace, cuts_at, (TWO, 0, False)),
            (BadCut, letters_on, (turned(3), (False, 1, 2))),
            (BadNumber, scarce, (True, ((0,),))),
            (BadNumber, filled, (True, ((0,),))),
            (BadBlock, filled, (2, ((False, 1),))),
            (BadOrder, renamed, (TWO, (False, 1), (0, 1), (0, 1))),
            (BadOrder, renamed, (TWO, (0, 1), (0, True), (0, 1))),
            (BadOrder, renamed, (TWO, (0, 1), (0, 1), (True, 0))),
            (BadOrder, exchanged, (TWO, (False, True, 2))),
            (BadPlace, switched, (TWO, (False, 1, 0, 1))),
            (BadPlace, switched, (TWO, (0, True, 0, 1))),
            (BadPlace, switched, (TWO, (0, 1, False, 1))),
            (BadPlace, switched, (TWO, (0, 1, 0, True))),
            (BadPlace, rings, (TWO, False, 1)),
            (BadPlace, rings, (TWO, 0, True)),
            (BadNumber, turning, (True, 1)),
            (BadNumber, turning, (5, True)),
            (BadNumber, turning, (1, True)),
        ):
            self.assert_refused(refusal, function, arguments)


class Together(unittest.TestCase):
    def assert_bar_parting_and_mate_agree(self, square):
        cuts = all_cuts(square)
        marks = bar(square)
        if marks is not None:
            self.assertIs(is_bar(square, marks), True)
            self.assertEqual(cuts, [])
        parts = parting(square)
        other = mate(square)
        self.assertIs(parts is None, other is None)
        if other is not None:
            self.assertIs(are_mates(square, other), True)
            self.assertTrue(set(cuts_by(square, other)) <= set(cuts))
            self.assertTrue(set(parts) <= set(cuts))
        if len(square) <= 5:
            self.assertIs(len(most_apart(square)) == len(square), parts is not None)
        return (len(cuts), marks is None, parts is None, len(all_marks(square)))

    def test_all_small_squares(self):
        for many in (1, 2, 3, 4):
            for square in squares_beginning_in_order(many):
                self.assert_bar_parting_and_mate_agree(square)
                self.assertIs(mate(square) is not None, plain_has_mate(square))
                self.assertEqual(all_cuts(square), plain_cuts(square))

    def test_squares_on_a_walk(self):
        chance = Random(1)
        for begin in (FIVE_WITH_FEW, SIX_WITH_TWOS, SIX_WITHOUT, turned(6)) + SEVENS_WITH_MATES[:1]:
            for square in walk(chance, begin, 12):
                self.assert_bar_parting_and_mate_agree(square)

    def test_renaming_and_exchanging_keep_cuts_bars_and_partings(self):
        chance = Random(3)
        for square in ORDINARY:
            many = len(square)
            told = self.assert_bar_parting_and_mate_agree(square)
            for order in permutations(range(3)):
                orders = [tuple(chance.sample(range(many), many)) for turn in range(3)]
                changed = renamed(exchanged(square, order), *orders)
                self.assertEqual(self.assert_bar_parting_and_mate_agree(changed), told)

    def test_alike_squares_have_one_least(self):
        chance = Random(4)
        for begin in (turned(4), FOUR_WITH_CUTS, FIVE_WITH_FEW):
            for square in walk(chance, begin, 6):
                least = least_alike(square)
                self.assertEqual(len(all_cuts(least)), len(all_cuts(square)))
                self.assertEqual(len(twos(least)), len(twos(square)))

    def test_a_block_can_be_filled_just_if_no_letter_is_scarce(self):
        chance = Random(5)
        for many in (4, 5):
            for turn in range(100):
                block = some_block(chance, many, chance.randint(2, many), chance.randint(2, many - 1))
                can_be = plain_can_be_filled(many, block)
                self.assertIs(filled(many, block) is not None, can_be)
                self.assertIs(scarce(many, block) == [], can_be)

    def test_corners_of_changed_squares_are_filled(self):
        for square in OF_ALL_SIZES:
            for height, length in product((1, len(square)), repeat=2):
                block = corner_of(over(square), height, length)
                self.assertEqual(scarce(len(square), block), [])
                self.assertEqual(corner_of(filled(len(square), block), height, length), block)

    def test_turning_squares_are_mates_where_their_steps_differ_by_a_step(self):
        for many in range(2, 10):
            steps = [step for step in range(1, many) if all(many % part or step % part for part in range(2, many))]
            for one, other in product(steps, repeat=2):
                wanted = (one - other) % many in steps
                self.assertIs(are_mates(turning(many, one), turning(many, other)), wanted)

    def test_mates_put_in_one_another_are_mates(self):
        self.assertIs(are_mates(put_in(turned(3), turned(3)), put_in(turned(3, 2), turned(3, 2))), True)
        self.assertIs(are_mates(put_in(turned(3), turned(3)), put_in(turned(3, 2), turned(3))), False)

    def test_all_squares_that_are_told_can_be_written_and_read(self):
        chance = Random(6)
        for begin in WITH_TWOS + (turned(9), ONE):
            for square in walk(chance, begin, 4):
                for told in (square, over(square), exchanged(square, (2, 0, 1)), put_in(ONE, square)):
                    self.assertEqual(read(shown(told)), told)
                for row, letter in product(range(len(square)), repeat=2):
                    self.assertEqual(letter_at(square, row, places_of(square, letter)[row]), letter)


if __name__ == "__main__":
    unittest.main()

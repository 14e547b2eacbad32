"""Squares to test with, wrong things of many kinds, and slow, plain answers to compare with."""

from itertools import combinations, permutations


def turned(many, step=1):
    return tuple(tuple((column + step * row) % many for column in range(many)) for row in range(many))


def square_of(text):
    return tuple(tuple("abcdefghi".index(sign) for sign in row) for row in text.split("/"))


def shuffled(square, rows, columns, letters):
    return tuple(tuple(letters[square[row][column]] for column in columns) for row in rows)


ONE = ((0,),)
TWO = square_of("ab/ba")
THREE = square_of("bac/acb/cba")
FOUR_WITH_CUTS = square_of("abcd/badc/cdab/dcba")
FOUR_WITHOUT = turned(4)
FIVE_WITH_FEW = square_of("abcde/cabed/bedca/dceab/edabc")
# The table of the six ways to order three things.
SIX_WITHOUT = square_of("abcdef/bcafde/cabefd/defabc/efdcab/fdebca")
SIX_WITH_CUTS = square_of("abcdef/eafbdc/bceafd/dfbeca/cdafbe/fedcab")
SEVEN_UNEVEN = square_of("abcdefg/bcdgfae/egbfdca/gdacbef/dfgeabc/faebcgd/cefagdb")

ORDINARY = (
    ONE,
    TWO,
    turned(3),
    THREE,
    FOUR_WITH_CUTS,
    FOUR_WITHOUT,
    turned(5, 2),
    FIVE_WITH_FEW,
    turned(6),
    SIX_WITHOUT,
    SIX_WITH_CUTS,
    turned(7, 3),
    shuffled(turned(7), (3, 0, 6, 1, 5, 2, 4), (2, 6, 4, 0, 3, 1, 5), (5, 1, 0, 6, 2, 4, 3)),
    SEVEN_UNEVEN,
)


def rows_beyond(many, rows):
    if len(rows) == many:
        return [tuple(rows)]
    found = []
    for row in permutations(range(many)):
        if all(letter not in column for letter, column in zip(row, zip(*rows))):
            found.extend(rows_beyond(many, rows + [row]))
    return found


def squares_beginning_in_order(many):
    return rows_beyond(many, [tuple(range(many))])


def plain_cuts(square):
    many = len(square)
    return [
        columns
        for columns in permutations(range(many))
        if len({square[row][columns[row]] for row in range(many)}) == many
    ]


def share_a_place(one, other):
    return any(here == there for here, there in zip(one, other))


def plain_most(square):
    cuts = plain_cuts(square)
    for many in range(len(square), 0, -1):
        for some in combinations(cuts, many):
            if not any(share_a_place(one, other) for one, other in combinations(some, 2)):
                return many
    return 0


class Thorny:
    """A thing that fails whenever something is asked of it."""

    def fail(self, *others):
        raise RuntimeError("asked")

    __eq__ = __ne__ = __lt__ = __le__ = __gt__ = __ge__ = fail
    __len__ = __iter__ = __getitem__ = __contains__ = __bool__ = __index__ = __int__ = fail
    __str__ = __repr__ = __hash__ = fail


def things_of_other_kinds():
    """None of these is a whole number, and none is a tuple but the empty one."""
    return [
        None,
        True,
        False,
        0.0,
        1.0,
        float("nan"),
        1j,
        "",
        "a",
        "0",
        "ab/ba",
        b"\x00",
        [],
        [0],
        [[0]],
        [(0,)],
        (),
        {},
        {0: 0},
        {0},
        frozenset({0}),
        range(1),
        iter(((0,),)),
        object(),
        int,
        len,
        ValueError("x"),
        Thorny(),
    ]


HUGE = 10 ** 5000


def with_letter(square, row, column, letter):
    rows = [list(line) for line in square]
    rows[row][column] = letter
    return tuple(tuple(line) for line in rows)


def wrong_squares():
    two = TWO
    three = turned(3)
    wrong = things_of_other_kinds() + [0, 1, 2, -1, HUGE]
    wrong += [((thing,),) for thing in things_of_other_kinds()]
    wrong += [(thing,) for thing in things_of_other_kinds()]
    wrong += [((0, 1), thing) for thing in things_of_other_kinds()]
    wrong += [with_letter(three, 1, 2, thing) for thing in things_of_other_kinds()]
    wrong += [
        turned(10),
        (0,),
        ((1,),),
        ((-1,),),
        ((0, 0),),
        ((),),
        ((), ()),
        [list(row) for row in two],
        list(two),
        tuple(list(row) for row in two),
        (two[0], list(two[1])),
        two[:1],
        two + two[:1],
        ((0, 1), (1,)),
        ((0, 1), (1, 0, 0)),
        ((0,), (1, 0)),
        ((0, 1), (1, False)),
        ((False, 1), (1, 0)),
        ((0, True), (True, 0)),
        ((0, 1), (0, 1)),
        ((0, 0), (1, 1)),
        ((0, 1), (1, 1)),
        ((1, 2), (2, 1)),
        ((0, 2), (2, 0)),
        ((-1, 0), (0, -1)),
        ((0, HUGE), (HUGE, 0)),
        ("ab", "ba"),
        three[:2],
        three[:2] + (three[1],),
        tuple(row[:2] for row in three),
        tuple(row + (3,) for row in three),
        tuple(tuple(letter + 1 for letter in row) for row in three),
        with_letter(three, 0, 0, 1),
        with_letter(three, 2, 2, -1),
        with_letter(three, 2, 2, 3),
        with_letter(turned(9), 8, 8, 9),
        with_letter(turned(9), 8, 8, 0),
        turned(9)[:8] + (turned(9)[0],),
        turned(9)[:8],
        turned(4, 2),
        tuple(zip(*turned(4, 2))),
    ]
    return wrong


def wrong_numbers(many):
    return things_of_other_kinds() + [(0,), -1, -many, many, many + 1, HUGE, -HUGE]

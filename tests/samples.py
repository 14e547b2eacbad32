"""Squares to test with, wrong things of many kinds, and slow, plain answers to compare with."""

import unittest
from itertools import combinations, permutations, product
from time import perf_counter


def turned(many, step=1):
    return tuple(tuple((column + step * row) % many for column in range(many)) for row in range(many))


def square_of(text):
    return tuple(tuple("abcdefghi".index(sign) for sign in row) for row in text.split("/"))


def times_in_field(many, one, other):
    """Of sizes 4 and 8, in both of which the size, as a power of two, stands for three."""
    found = 0
    while other:
        found ^= one if other % 2 else 0
        one *= 2
        one = one if one < many else (one - many) ^ 3
        other //= 2
    return found


def fielded(many, step):
    """Of sizes 4 and 8: any two of unlike steps from 1 on are mates."""
    return tuple(tuple(times_in_field(many, row, step) ^ column for column in range(many))
                 for row in range(many))


def shuffled(square, rows, columns, letters):
    return tuple(tuple(letters[square[row][column]] for column in columns) for row in rows)


ONE = ((0,),)
TWO = square_of("ab/ba")
THREE = square_of("bac/acb/cba")
FOUR_WITH_CUTS = square_of("abcd/badc/cdab/dcba")
FOUR_WITHOUT = turned(4)
FIVE_WITH_FEW = square_of("abcde/cabed/bedca/dceab/edabc")
# The table of the six ways to order three things.
SIX_WITHOUT = square_of("abcdef/bcafde/cabefd/defabc/efdcab/fdebca")
SIX_WITH_CUTS = square_of("abcdef/eafbdc/bceafd/dfbeca/cdafbe/fedcab")
SEVEN_UNEVEN = square_of("abcdefg/bcdgfae/egbfdca/gdacbef/dfgeabc/faebcgd/cefagdb")

# By how many cuts each one has: five with mates, two without.
SEVEN_WITH_23 = square_of("ecbgdfa/cgebfad/dbfaegc/bfadceg/gadfbce/adcegbf/fegcadb")
SEVEN_WITH_25 = square_of("agbfdec/feadgcb/bdgcefa/ecfgabd/dacebgf/cbeafdg/gfdbcae")
SEVEN_WITH_30 = square_of("bdecagf/fadecbg/cgafedb/ebfdgac/gfcbdea/aebgfcd/dcgabfe")
SEVEN_WITH_33 = square_of("bgadfec/gbfeacd/afbgcde/daecgfb/fecbdga/cdgaebf/ecdfbag")
SEVEN_WITH_63 = square_of("bcfdgae/agcefbd/edacbfg/febgadc/gadfecb/cbeadgf/dfgbcea")
SEVEN_WITH_3 = square_of("bcagdef/dfbacge/agdbefc/eacdfbg/fdgebca/cbefgad/gefcadb")
SEVEN_WITH_55 = square_of("abfgdce/dagfceb/fgacebd/gfeabdc/ecdbagf/bdcefag/cebdgfa")
SEVENS_WITH_MATES = (SEVEN_WITH_23, SEVEN_WITH_25, SEVEN_WITH_30, SEVEN_WITH_33, SEVEN_WITH_63, turned(7, 2))
SEVENS_WITHOUT_MATES = (SEVEN_UNEVEN, SEVEN_WITH_3, SEVEN_WITH_55)

ORDINARY = (
    ONE,
    TWO,
    turned(3),
    THREE,
    FOUR_WITH_CUTS,
    FOUR_WITHOUT,
    turned(5, 2),
    FIVE_WITH_FEW,
    turned(6),
    SIX_WITHOUT,
    SIX_WITH_CUTS,
    turned(7, 3),
    shuffled(turned(7), (3, 0, 6, 1, 5, 2, 4), (2, 6, 4, 0, 3, 1, 5), (5, 1, 0, 6, 2, 4, 3)),
    SEVEN_UNEVEN,
)


def rows_beyond(many, rows):
    if len(rows) == many:
        return [tuple(rows)]
    found = []
    for row in permutations(range(many)):
        if all(letter not in column for letter, column in zip(row, zip(*rows))):
            found.extend(rows_beyond(many, rows + [row]))
    return found


def squares_beginning_in_order(many):
    return rows_beyond(many, [tuple(range(many))])


def all_squares(many):
    return [square for first in permutations(range(many)) for square in rows_beyond(many, [first])]


def plain_cuts(square):
    many = len(square)
    return [
        columns
        for columns in permutations(range(many))
        if len({square[row][columns[row]] for row in range(many)}) == many
    ]


def share_a_place(one, other):
    return any(here == there for here, there in zip(one, other))


def plain_most(square):
    cuts = plain_cuts(square)
    for many in range(len(square), 0, -1):
        for some in combinations(cuts, many):
            if not any(share_a_place(one, other) for one, other in combinations(some, 2)):
                return many
    return 0


def plain_clash(one, other):
    places = list(product(range(len(one)), repeat=2))
    for pair in places:
        found = [(row, column) for row, column in places if (one[row][column], other[row][column]) == pair]
        if len(found) > 1:
            return (pair, found[0], found[1])
    return None


def plain_has_mate(square, rows=None):
    """By trying all rows of a mate; its letters can be named so that its first row is in order."""
    many = len(square)
    rows = rows or [tuple(range(many))]
    if len(rows) == many:
        return True
    pairs = {pair for above, below in zip(square, rows) for pair in zip(above, below)}
    for row in permutations(range(many)):
        if any(letter in column for letter, column in zip(row, zip(*rows))):
            continue
        if pairs.isdisjoint(zip(square[len(rows)], row)) and plain_has_mate(square, rows + [row]):
            return True
    return False


def plain_has_parting(left, cuts):
    """Whether the places left, a set, are just those of some cuts, given as sets of places."""
    if not left:
        return True
    meeting = min(([cut for cut in cuts if place in cut] for place in sorted(left)), key=len)
    return any(plain_has_parting(left - cut, [other for other in cuts if not other & cut]) for cut in meeting)


def plain_marks(square):
    many = len(square)
    by_letter = [[(row, columns.index(letter)) for row, columns in enumerate(square)] for letter in range(many)]
    found = []
    for rows in product((0, 1), repeat=many):
        for columns in product((0, 1), repeat=many):
            letters = []
            for places in by_letter:
                needed = {rows[row] ^ columns[column] for row, column in places}
                if len(needed) > 1:
                    break
                letters.extend(needed)
            else:
                found.append((rows, columns, tuple(letters)))
    return found


def plain_can_be_filled(many, block):
    """By trying letters place by place, row after row."""
    rows = [list(row) + [None] * (many - len(row)) for row in block]
    rows += [[None] * many for row in range(many - len(block))]

    def can_go_on(place):
        if place == many * many:
            return True
        row, column = divmod(place, many)
        if rows[row][column] is not None:
            return can_go_on(place + 1)
        taken = set(rows[row]) | {line[column] for line in rows}
        for letter in sorted(set(range(many)) - taken):
            rows[row][column] = letter
            if can_go_on(place + 1):
                return True
        rows[row][column] = None
        return False

    return can_go_on(0)


def some_block(chance, many, height, length):
    """Row after row, letters by chance that are not in the way; begun anew where none is left."""
    while True:
        rows = []
        for row in range(height):
            letters = []
            for column in range(length):
                free = sorted(set(range(many)) - set(letters) - {above[column] for above in rows})
                if not free:
                    break
                letters.append(chance.choice(free))
            if len(letters) < length:
                break
            rows.append(tuple(letters))
        if len(rows) == height:
            return tuple(rows)


def corner_of(square, rows, columns):
    return tuple(row[:columns] for row in square[:rows])


def seconds_for(function, *arguments):
    begun = perf_counter()
    function(*arguments)
    return perf_counter() - begun


class WithSquares(unittest.TestCase):
    def assert_square(self, square, many):
        self.assertIs(square.__class__, tuple)
        self.assertEqual(len(square), many)
        for row in square:
            self.assertIs(row.__class__, tuple)
            for letter in row:
                self.assertIs(letter.__class__, int)
        for line in list(square) + list(zip(*square)):
            self.assertEqual(sorted(line), list(range(many)))


class Thorny:
    """A thing that fails whenever something is asked of it."""

    def fail(self, *others):
        raise RuntimeError("asked")

    __eq__ = __ne__ = __lt__ = __le__ = __gt__ = __ge__ = fail
    __len__ = __iter__ = __getitem__ = __contains__ = __bool__ = __index__ = __int__ = fail
    __str__ = __repr__ = __hash__ = fail


def things_of_other_kinds():
    """None of these is a whole number, and none is a tuple but the empty one."""
    return [
        None,
        True,
        False,
        0.0,
        1.0,
        float("nan"),
        1j,
        "",
        "a",
        "0",
        "ab/ba",
        b"\x00",
        [],
        [0],
        [[0]],
        [(0,)],
        (),
        {},
        {0: 0},
        {0},
        frozenset({0}),
        range(1),
        iter(((0,),)),
        object(),
        int,
        len,
        ValueError("x"),
        Thorny(),
    ]


HUGE = 10 ** 5000


def with_letter(square, row, column, letter):
    rows = [list(line) for line in square]
    rows[row][column] = letter
    return tuple(tuple(line) for line in rows)


def wrong_squares():
    two = TWO
    three = turned(3)
    wrong = things_of_other_kinds() + [0, 1, 2, -1, HUGE]
    wrong += [((thing,),) for thing in things_of_other_kinds()]
    wrong += [(thing,) for thing in things_of_other_kinds()]
    wrong += [((0, 1), thing) for thing in things_of_other_kinds()]
    wrong += [with_letter(three, 1, 2, thing) for thing in things_of_other_kinds()]
    wrong += [
        turned(10),
        (0,),
        ((1,),),
        ((-1,),),
        ((0, 0),),
        ((),),
        ((), ()),
        [list(row) for row in two],
        list(two),
        tuple(list(row) for row in two),
        (two[0], list(two[1])),
        two[:1],
        two + two[:1],
        ((0, 1), (1,)),
        ((0, 1), (1, 0, 0)),
        ((0,), (1, 0)),
        ((0, 1), (1, False)),
        ((False, 1), (1, 0)),
        ((0, True), (True, 0)),
        ((0, 1), (0, 1)),
        ((0, 0), (1, 1)),
        ((0, 1), (1, 1)),
        ((1, 2), (2, 1)),
        ((0, 2), (2, 0)),
        ((-1, 0), (0, -1)),
        ((0, HUGE), (HUGE, 0)),
        ("ab", "ba"),
        three[:2],
        three[:2] + (three[1],),
        tuple(row[:2] for row in three),
        tuple(row + (3,) for row in three),
        tuple(tuple(letter + 1 for letter in row) for row in three),
        with_letter(three, 0, 0, 1),
        with_letter(three, 2, 2, -1),
        with_letter(three, 2, 2, 3),
        with_letter(turned(9), 8, 8, 9),
        with_letter(turned(9), 8, 8, 0),
        turned(9)[:8] + (turned(9)[0],),
        turned(9)[:8],
        turned(4, 2),
        tuple(zip(*turned(4, 2))),
    ]
    return wrong


def wrong_numbers(many):
    return things_of_other_kinds() + [(0,), -1, -many, many, many + 1, HUGE, -HUGE]


NINE_MIXED = shuffled(
    turned(9, 2), (3, 0, 6, 1, 8, 5, 2, 7, 4), (2, 6, 4, 7, 0, 3, 8, 1, 5), (5, 1, 0, 8, 6, 2, 7, 4, 3)
)
# Squares with many twos, and with rings of many lengths.
SIX_WITH_TWOS = square_of("afecdb/facebd/deabcf/cbfdae/bcdfea/edbafc")
SEVEN_WITH_TWOS = square_of("fdbcaeg/dfcabge/egabdfc/bcfgead/cegdfba/abdegcf/gaefcdb")
EIGHT_WITH_TWOS = square_of("bcgehadf/hbdgacfe/edcafbgh/fgacdheb/cafhegbd/dhebgfca/aebfcdhg/gfhdbeac")
NINE_WITH_TWOS = square_of(
    "fecgbadih/abgdichfe/gaeifhcdb/cgbedifha/dciahebgf/hfacegibd/edhfgbaci/ihfbcdeag/bidhafgec"
)
WITH_TWOS = (TWO, TWO[::-1], FOUR_WITH_CUTS, FIVE_WITH_FEW, SIX_WITH_TWOS, SEVEN_WITH_TWOS, EIGHT_WITH_TWOS,
             NINE_WITH_TWOS)
OF_ALL_SIZES = ORDINARY + WITH_TWOS + (turned(8, 3), fielded(8, 5), turned(9), NINE_MIXED)


def wrong_orders(many):
    """Things that are no order of so many numbers."""
    order = tuple(range(many))
    wrong = things_of_other_kinds() + [0, 1, many, HUGE]
    for place in order:
        wrong += [order[:place] + (thing,) + order[place + 1:] for thing in things_of_other_kinds()]
        wrong += [order[:place] + (number,) + order[place + 1:] for number in (-1, many, HUGE, -HUGE, place - many)]
        wrong += [order[:place] + (other,) + order[place + 1:] for other in order if other != place]
        wrong += [order[:place] + order[place + 1:]]
    wrong += [
        list(order),
        range(many),
        "".join(str(number) for number in order),
        order + (many,),
        order + (0,),
        order + order,
        (order,),
        (0,) * (many + 1),
        (0,) * many if many > 1 else (0, 0),
        tuple(number + 1 for number in order),
        tuple(number - many for number in order),
        tuple(float(number) for number in order),
        tuple(False if number == 0 else number for number in order),
    ]
    if many > 1:
        wrong += [tuple(True if number == 1 else number for number in order)]
    return wrong


def plain_exchanged(square, order):
    """By looking for each new row and column through all places."""
    many = len(square)
    threes = [(row, column, square[row][column]) for row, column in product(range(many), repeat=2)]
    return tuple(
        tuple(
            next(three[order[2]] for three in threes if (three[order[0]], three[order[1]]) == place)
            for place in product((row,), range(many))
        )
        for row in range(many)
    )


def plain_twos(square):
    """All tuples of four numbers are tried."""
    return [
        (one, other, left, right)
        for one, other, left, right in product(range(len(square)), repeat=4)
        if one < other and left < right
        and len({square[one][left], square[one][right], square[other][left], square[other][right]}) == 2
    ]


def plain_rings(square, one, two):
    """Each column's ring, of which those that begin with their least column are kept."""
    found = []
    for begin in range(len(square)):
        ring = [begin]
        while True:
            letter = square[two][ring[-1]]
            onward = [column for column in range(len(square)) if square[one][column] == letter]
            if onward == [begin]:
                break
            ring += onward
        if begin == min(ring):
            found.append(ring)
    return found


def plain_put_in(one, other):
    inner = len(other)
    many = len(one) * inner
    return tuple(
        tuple(one[row // inner][column // inner] * inner + other[row % inner][column % inner]
              for column in range(many))
        for row in range(many)
    )


def all_renamed(square):
    orders = list(permutations(range(len(square))))
    return {shuffled(square, *three) for three in product(orders, repeat=3)}


def texts_alike(square):
    """All that come by renaming, as rows of digits in one text.

    All orders come of two: that which swaps the first two numbers, and that which moves all on by one.
    """
    many = len(square)
    digits = "0123456789"[:many]
    orders = [[1, 0] + list(range(2, many)) if many > 1 else [0], list(range(1, many)) + [0]]
    ways = [(order, str.maketrans(digits, "".join(digits[number] for number in order))) for order in orders]
    begin = "".join(digits[letter] for row in square for letter in row)
    found = {begin}
    left = [begin]
    while left:
        text = left.pop()
        rows = [text[place:place + many] for place in range(0, many * many, many)]
        for order, names in ways:
            columns = ["".join([row[column] for column in order]) for row in rows]
            for changed in ("".join([rows[row] for row in order]), "".join(columns), text.translate(names)):
                if changed not in found:
                    found.add(changed)
                    left.append(changed)
    return found


def square_of_digits(text, many):
    return tuple(tuple(int(sign) for sign in text[place:place + many]) for place in range(0, many * many, many))

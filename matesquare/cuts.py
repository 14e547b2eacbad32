"""Cuts of a square: for each row a column, so that all letters stand there, each once."""

from matesquare.errors import BadCut
from matesquare.squares import check_number, check_size, checked, is_order

LARGEST_FOR_ALL_CUTS = 7
LARGEST_FOR_MOST_APART = 5


def letters_along(square, columns):
    return tuple([row[column] for row, column in zip(square, columns)])


def is_cut(square, thing):
    many = len(checked(square))
    return is_order(many, thing) and is_order(many, letters_along(square, thing))


def cuts_beginning(square, columns):
    if len(columns) == len(square):
        return [columns]
    letters = letters_along(square, columns)
    cuts = []
    # Columns are tried from the least on, so the cuts come rising without sorting.
    for column, letter in enumerate(square[len(columns)]):
        if column not in columns and letter not in letters:
            cuts.extend(cuts_beginning(square, columns + (column,)))
    return cuts


def all_cuts(square):
    check_size(square, LARGEST_FOR_ALL_CUTS)
    return cuts_beginning(square, ())


def cuts_at(square, row, column):
    check_size(square, LARGEST_FOR_ALL_CUTS)
    check_number(len(square), row)
    check_number(len(square), column)
    return [cut for cut in all_cuts(square) if cut[row] == column]


def letters_on(square, cut):
    if not is_cut(square, cut):
        raise BadCut("this is no cut of the square")
    return letters_along(square, cut)


def are_apart(one, other):
    return not any([here == there for here, there in zip(one, other)])


def most_apart_of(cuts):
    # The first cut may stand in the way of more others, so both choices are looked at.
    if not cuts:
        return []
    first = cuts[0]
    rest = cuts[1:]
    with_first = [first] + most_apart_of([cut for cut in rest if are_apart(first, cut)])
    without = most_apart_of(rest)
    return with_first if len(with_first) >= len(without) else without


def most_apart(square):
    check_size(square, LARGEST_FOR_MOST_APART)
    return most_apart_of(all_cuts(square))

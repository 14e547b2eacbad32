"""Squares of letters: what one is, and what stands where in it."""

from matesquare.errors import BadNumber, BadOrder, BadPlace, BadSquare, TooBig

LARGEST_SIZE = 9


def is_number_below(many, thing):
    # True and False pass for whole numbers in Python; here they are none.
    if isinstance(thing, bool) or not isinstance(thing, int):
        return False
    return 0 <= thing < many


def is_part_of_order(many, thing):
    if not isinstance(thing, tuple):
        return False
    # Some things can't be counted in a set, so the numbers are looked at first.
    if not all([is_number_below(many, number) for number in thing]):
        return False
    return len(set(thing)) == len(thing)


def is_order(many, thing):
    return is_part_of_order(many, thing) and len(thing) == many


def column_of(rows, column):
    return tuple([row[column] for row in rows])


def columns_of(rows):
    return tuple([column_of(rows, column) for column in range(len(rows[0]))])


def is_square(thing):
    if not isinstance(thing, tuple) or not 1 <= len(thing) <= LARGEST_SIZE:
        return False
    many = len(thing)
    # The rows come first: only when each has its full length can columns be taken.
    if not all([is_order(many, row) for row in thing]):
        return False
    return all([is_order(many, column) for column in columns_of(thing)])


def checked(square):
    if not is_square(square):
        raise BadSquare("this is no square of a size from 1 to 9")
    return square


def check_size(square, largest):
    if len(checked(square)) > largest:
        raise TooBig(f"this is told of squares of a size up to {largest} only")


def check_many(thing):
    if not is_number_below(LARGEST_SIZE + 1, thing) or thing == 0:
        raise BadNumber("this is no size from 1 to 9")


def check_number(many, thing):
    # The refused thing is not shown: it may be of any kind, and showing it may fail.
    if not is_number_below(many, thing):
        raise BadPlace("this is no number of a row, a column or a letter of the square")


def check_order(many, thing):
    if not is_order(many, thing):
        raise BadOrder("this is no order of so many numbers")


def letter_at(square, row, column):
    many = len(checked(square))
    check_number(many, row)
    check_number(many, column)
    return square[row][column]


def places_of(square, letter):
    check_number(len(checked(square)), letter)
    return tuple([row.index(letter) for row in square])

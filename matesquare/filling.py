"""Blocks of letters, filled up to squares that begin with them."""

from matesquare.errors import BadBlock
from matesquare.squares import check_many, columns_of, is_part_of_order


def is_block(many, thing):
    if not isinstance(thing, tuple) or not 1 <= len(thing) <= many:
        return False
    if not all([is_part_of_order(many, row) for row in thing]):
        return False
    length = len(thing[0])
    if length == 0 or not all([len(row) == length for row in thing]):
        return False
    return all([is_part_of_order(many, column) for column in columns_of(thing)])


def check_block(many, block):
    check_many(many)
    if not is_block(many, block):
        raise BadBlock("this is no block for the size")


def times_in(rows, letter):
    return sum([row.count(letter) for row in rows])


def least_times(many, rows):
    return len(rows) + len(rows[0]) - many


def scarce(many, block):
    check_block(many, block)
    return [letter for letter in range(many) if times_in(block, letter) < least_times(many, block)]


def give_letter(choices, place, places, asked):
    for letter in choices[place]:
        if letter in asked:
            continue
        asked[letter] = True
        # A letter that is taken comes free if the place that has it can be given another one.
        if letter not in places or give_letter(choices, places[letter], places, asked):
            places[letter] = place
            return True
    return False


def unlike_letters(choices):
    places = {}
    for place in range(len(choices)):
        give_letter(choices, place, places, {})
    return sorted(places, key=lambda letter: places[letter])


def letters_not_in(many, row):
    return [letter for letter in range(many) if letter not in row]


def next_column(many, rows):
    least = least_times(many, rows)
    # A letter that stands in the rows just often enough would be scarce if it came below them.
    plenty = [letter for letter in range(many) if times_in(rows, letter) > least]
    choices = [letters_not_in(many, row) for row in rows] + [plenty] * (many - len(rows))
    return unlike_letters(choices)[:len(rows)]


def widened(many, rows):
    while len(rows[0]) < many:
        rows = tuple([row + (letter,) for row, letter in zip(rows, next_column(many, rows))])
    return rows


def filled(many, block):
    if scarce(many, block):
        return None
    # Rows are added as columns are, to the block turned over.
    broad = widened(many, block)
    return columns_of(widened(many, columns_of(broad)))

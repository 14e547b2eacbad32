"""Marks of rows, columns and letters, and the bars among them, which show that a square has no cut."""

from matesquare.squares import checked, column_of, is_number_below


def are_marks(many, thing):
    if not isinstance(thing, tuple) or len(thing) != many:
        return False
    return all([is_number_below(2, mark) for mark in thing])


def is_even_row(row, mark, columns, letters):
    return all([(mark + column + letters[letter]) % 2 == 0 for column, letter in zip(columns, row)])


def are_even(square, marks):
    return all([is_even_row(row, mark, marks[1], marks[2]) for row, mark in zip(square, marks[0])])


def are_odd_in_all(marks):
    return sum([sum(some) for some in marks]) % 2 == 1


def is_bar(square, thing):
    many = len(checked(square))
    if not isinstance(thing, tuple) or len(thing) != 3:
        return False
    if not all([are_marks(many, some) for some in thing]):
        return False
    return are_even(square, thing) and are_odd_in_all(thing)


def all_ways_to_mark(many):
    if many == 0:
        return [()]
    rest = all_ways_to_mark(many - 1)
    return [(0,) + marks for marks in rest] + [(1,) + marks for marks in rest]


def marks_led_to(square, rows, first):
    # Where rows' marks and one column's are known, evenness leaves each letter, then each column, one mark.
    below = column_of(square, 0)
    letters = tuple([(rows[below.index(letter)] + first) % 2 for letter in range(len(square))])
    columns = tuple([(rows[0] + letters[letter]) % 2 for letter in square[0]])
    return (rows, columns, letters)


def all_marks(square):
    found = []
    # The rows' marks rise, and the first column's mark within them, so no sorting is needed.
    for rows in all_ways_to_mark(len(checked(square))):
        ways = [marks_led_to(square, rows, first) for first in (0, 1)]
        found.extend([marks for marks in ways if are_even(square, marks)])
    return found


def bar(square):
    bars = [marks for marks in all_marks(square) if are_odd_in_all(marks)]
    return bars[0] if bars else None

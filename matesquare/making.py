"""Squares made: turning ones, and two squares put in one another."""

from matesquare.errors import BadNumber, TooBig
from matesquare.squares import LARGEST_SIZE, check_many, checked, is_number_below


def have_common_divisor(one, other):
    return any([one % part == 0 and other % part == 0 for part in range(2, one + 1)])


def is_step(many, thing):
    # Size 1 alone has its size for a step.
    if not is_number_below(max(many, 2), thing) or thing == 0:
        return False
    return not have_common_divisor(many, thing)


def turning_row(many, begin):
    return tuple([(column + begin) % many for column in range(many)])


def turning(many, step):
    check_many(many)
    if not is_step(many, step):
        raise BadNumber("this is no step of the size")
    return tuple([turning_row(many, step * row) for row in range(many)])


def row_put_in(above, below):
    row = []
    for letter in above:
        row.extend([letter * len(below) + inner for inner in below])
    return tuple(row)


def put_in(one, other):
    if len(checked(one)) * len(checked(other)) > LARGEST_SIZE:
        raise TooBig("put in one another, these squares come beyond size 9")
    rows = []
    for above in one:
        rows.extend([row_put_in(above, below) for below in other])
    return tuple(rows)

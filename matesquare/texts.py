"""Squares written as texts, and read from them."""

from matesquare.errors import BadText
from matesquare.squares import checked, is_square

SIGNS = "abcdefghi"


def shown_row(row):
    return "".join([SIGNS[letter] for letter in row])


def shown(square):
    return "/".join([shown_row(row) for row in checked(square)])


def read_row(text):
    # A sign that stands for no letter is found at -1, which no square holds.
    return tuple([SIGNS.find(sign) for sign in text])


def read(text):
    if not isinstance(text, str):
        raise BadText("this is no text")
    square = tuple([read_row(row) for row in text.split("/")])
    if not is_square(square):
        raise BadText("this is no square's text")
    return square

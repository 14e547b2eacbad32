"""Mates: two squares that laid on one another have each pair of letters once."""

from matesquare.cuts import all_cuts, are_apart
from matesquare.errors import BadSquare
from matesquare.squares import check_size, checked, column_of, places_of

LARGEST_FOR_PARTING = 7


def check_one_size(one, other):
    if len(checked(one)) != len(checked(other)):
        raise BadSquare("these squares are not of one size")


def places_of_pairs(one, other):
    places = {}
    for row in range(len(one)):
        for column in range(len(one)):
            pair = (one[row][column], other[row][column])
            places.setdefault(pair, []).append((row, column))
    return places


def clashes(one, other):
    check_one_size(one, other)
    places = places_of_pairs(one, other)
    for pair in sorted(places):
        if len(places[pair]) > 1:
            return (pair, places[pair][0], places[pair][1])
    return None


def are_mates(one, other):
    return clashes(one, other) is None


def cuts_by(one, other):
    if not are_mates(one, other):
        raise BadSquare("these squares are no mates")
    return [places_of(other, letter) for letter in range(len(other))]


def parting_beyond(many, chosen, cuts):
    if len(chosen) == many:
        return chosen
    for cut in cuts:
        # Some cut must meet each place of the first row, so the next one begins in the next column.
        if cut[0] == len(chosen):
            rest = [other for other in cuts if are_apart(cut, other)]
            found = parting_beyond(many, chosen + [cut], rest)
            if found is not None:
                return found
    return None


def parting(square):
    check_size(square, LARGEST_FOR_PARTING)
    return parting_beyond(len(square), [], all_cuts(square))


def numbers_of_cuts(cuts, row):
    columns = column_of(cuts, row)
    return tuple([columns.index(column) for column in range(len(columns))])


def mate(square):
    cuts = parting(square)
    if cuts is None:
        return None
    return tuple([numbers_of_cuts(cuts, row) for row in range(len(square))])

"""Changes of a square: by orders, by exchanging rows, columns and letters, by twos; and the least alike one."""

from matesquare.errors import BadPlace
from matesquare.squares import check_number, check_order, check_size, checked, columns_of, is_number_below

LARGEST_FOR_LEAST_ALIKE = 5


def renamed_row(row, columns, letters):
    return tuple([letters[row[column]] for column in columns])


def renamed(square, rows, columns, letters):
    many = len(checked(square))
    for order in (rows, columns, letters):
        check_order(many, order)
    return tuple([renamed_row(square[row], columns, letters) for row in rows])


def exchanged(square, order):
    many = len(checked(square))
    check_order(3, order)
    rows = [[0] * many for row in range(many)]
    for row in range(many):
        for column in range(many):
            numbers = (row, column, square[row][column])
            rows[numbers[order[0]]][numbers[order[1]]] = numbers[order[2]]
    return tuple([tuple(row) for row in rows])


def over(square):
    return columns_of(checked(square))


def are_two_rising(many, numbers):
    # Only whole numbers can be compared without fear.
    return all([is_number_below(many, number) for number in numbers]) and numbers[0] < numbers[1]


def is_two(square, thing):
    if not isinstance(thing, tuple) or len(thing) != 4:
        return False
    rows = thing[:2]
    columns = thing[2:]
    if not are_two_rising(len(square), rows) or not are_two_rising(len(square), columns):
        return False
    letters = [square[row][columns[0]] for row in rows] + [square[row][columns[1]] for row in rows]
    return len(set(letters)) == 2


def rising_pairs(many):
    pairs = []
    for less in range(many):
        pairs.extend([(less, more) for more in range(less + 1, many)])
    return pairs


def twos(square):
    pairs = rising_pairs(len(checked(square)))
    found = []
    # The rows rise, and the columns within them, so no sorting is needed.
    for rows in pairs:
        found.extend([rows + columns for columns in pairs if is_two(square, rows + columns)])
    return found


def row_with_letters_swapped(row, one, other):
    letters = list(row)
    letters[one] = row[other]
    letters[other] = row[one]
    return tuple(letters)


def switched(square, two):
    if not is_two(checked(square), two):
        raise BadPlace("this is no two of the square")
    rows = list(square)
    for row in two[:2]:
        rows[row] = row_with_letters_swapped(square[row], two[2], two[3])
    return tuple(rows)


def ring_from(above, below, column):
    ring = []
    while column not in ring:
        ring.append(column)
        column = above.index(below[column])
    return ring


def rings(square, one, two):
    many = len(checked(square))
    check_number(many, one)
    check_number(many, two)
    if one == two:
        raise BadPlace("these rows are not unlike")
    found = []
    for column in range(many):
        # Columns come from the least on, so one that is in no ring yet is the least one of its ring.
        if not any([column in ring for ring in found]):
            found.append(ring_from(square[one], square[two], column))
    return found


def orders_of(numbers):
    if not numbers:
        return [()]
    orders = []
    for number in numbers:
        rest = [other for other in numbers if other != number]
        orders.extend([(number,) + order for order in orders_of(rest)])
    return orders


def row_by_names(row, columns, names):
    return tuple([names.index(row[column]) for column in columns])


def least_alike_beginning(square, first, columns):
    # The least one has its first row and its first column in order, which leaves one way to name letters and rows.
    names = [first[column] for column in columns]
    return tuple(sorted([row_by_names(row, columns, names) for row in square]))


def least_alike(square):
    check_size(square, LARGEST_FOR_LEAST_ALIKE)
    orders = orders_of(list(range(len(square))))
    alike = []
    for first in square:
        alike.extend([least_alike_beginning(square, first, columns) for columns in orders])
    return min(alike)

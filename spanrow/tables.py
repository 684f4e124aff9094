"""Tables of whole numbers: their determinants, and the fractions that solve them."""

from spanrow.errors import NotSquare, Singular


def refuse_not_square(table):
    for row in table:
        if len(row) != len(table):
            raise NotSquare("the rows are not as long as there are rows")


# The row with its first number taken off by the pivot row. The division leaves
# nothing over, since what comes up is always a determinant of a lesser table;
# so numbers stay whole and don't outgrow these determinants.
def row_taken_off(row, pivot, last):
    return [(pivot[0] * own - row[0] * other) // last for own, other in zip(row[1:], pivot[1:])]


def first_with_some(rows):
    for at, row in enumerate(rows):
        if row[0] != 0:
            return at
    return None


def determinant(table):
    refuse_not_square(table)
    rows = [list(row) for row in table]
    sign = 1
    last = 1
    while len(rows) > 0:
        at = first_with_some(rows)
        if at is None:
            return 0
        # The pivot row is brought up past the rows ahead of it; each of them turns the sign.
        if at % 2 == 1:
            sign = -sign
        pivot = rows.pop(at)
        rows = [row_taken_off(row, pivot, last) for row in rows]
        last = pivot[0]
    return sign * last


def row_without(row, number):
    return list(row[:number]) + list(row[number + 1:])


# The table without the row and the column of one number.
def table_without(table, number):
    return [row_without(row, number) for at, row in enumerate(table) if at != number]


def common_divisor(one, other):
    one = abs(one)
    other = abs(other)
    while other != 0:
        rest = one % other
        one = other
        other = rest
    return one


# The fraction in lowest terms, for a bottom of either sign that is not nought.
def fraction(top, bottom):
    divisor = common_divisor(top, bottom)
    if bottom < 0:
        divisor = -divisor
    return (top // divisor, bottom // divisor)


def with_column(table, column, right):
    return [list(row[:column]) + [number] + list(row[column + 1:]) for row, number in zip(table, right)]


def solved(table, right):
    if len(right) != len(table):
        raise NotSquare("the list is not as long as there are rows")
    whole = determinant(table)
    if whole == 0:
        raise Singular("the determinant is nought")
    tops = [determinant(with_column(table, column, right)) for column in range(len(table))]
    return tuple([fraction(top, whole) for top in tops])

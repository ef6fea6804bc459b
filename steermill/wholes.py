"""Rows of numbers as rows of whole numbers over one bottom.

The slow step with long fractions is the search for common divisors. Whole
numbers are added and multiplied without it, so that it is done seldom.
By a prime the rests are such whole numbers already, over 1.
"""

from steermill.numbers import common_divisor, number, over


def scaled(kind, row):
    """A pair (wholes, bottom): each number of the row is its whole number over the bottom."""
    if kind != 0:
        return (list(row), 1)
    bottom = 1
    for part in row:
        bottom = bottom // common_divisor(bottom, part[1]) * part[1]
    return ([part[0] * (bottom // part[1]) for part in row], bottom)


def quotient(kind, top, bottom):
    """The number that a whole number makes over another one, not nought by the kind."""
    return over(kind, number(kind, top), number(kind, bottom))


def whole_sum(one, other):
    """The sum of products of two rows of whole numbers."""
    return sum([left * right for left, right in zip(one, other)])


def whole_image(rows, row):
    """For each of the rows of whole numbers its sum of products with the told row."""
    return [whole_sum(left, row) for left in rows]


def sum_of_products(kind, one, other):
    """The sum of products of two rows, each given as a pair of scaled."""
    return quotient(kind, whole_sum(one[0], other[0]), one[1] * other[1])


def eased(kind, wholes):
    """A multiple of the whole numbers, by the kind, that is as small as may be."""
    if kind != 0:
        return [whole % kind for whole in wholes]
    divisor = 0
    for whole in wholes:
        divisor = common_divisor(divisor, whole)
        if divisor == 1:
            return wholes
    if divisor == 0:
        return wholes
    return [whole // divisor for whole in wholes]


def cleared(kind, row, lead_row, column):
    """The row with a multiple of the lead row put to it, so that nought stands in the column."""
    if row[column] == 0:
        return row
    return eased(kind, [lead_row[column] * left - row[column] * right for left, right in zip(row, lead_row)])


def swept(kind, rows):
    """Rows of whole numbers turned to the reduced form, but that a lead is any number not nought."""
    done = []
    waiting = [eased(kind, row) for row in rows]
    width = len(rows[0]) if len(rows) > 0 else 0
    for column in range(width):
        leading = [row for row in waiting if row[column] != 0]
        if len(leading) > 0:
            lead_row = leading[0]
            waiting = [row for row in waiting if row[column] == 0]
            waiting.extend([cleared(kind, row, lead_row, column) for row in leading[1:]])
            done = [cleared(kind, row, lead_row, column) for row in done]
            done.append(lead_row)
    return done

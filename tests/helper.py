"""What the tests share: kinds, numbers by dice with a fixed seed, and a plain reckoning to hold answers against.

The reckoning here uses Python's own fractions and rests, and nothing of the program.
"""

from fractions import Fraction
from itertools import product as all_choices
from math import gcd
from random import Random

KINDS = (0, 2, 3, 7, 31, 89, 97)
SMALL_PRIMES = (2, 3, 5)


def dice(name):
    return Random(name)


def plain(kind, number):
    """A number of the program as Python reckons with it."""
    return Fraction(number[0], number[1]) if kind == 0 else number


def told(kind, value):
    """A whole number or a Fraction as a number of the program."""
    if kind == 0:
        value = Fraction(value)
        return (value.numerator, value.denominator)
    return value % kind


def row_of(kind, *values):
    return [told(kind, value) for value in values]


def table_of(kind, *rows):
    return [row_of(kind, *row) for row in rows]


def is_whole(value):
    return isinstance(value, int) and not isinstance(value, bool)


def in_form(kind, number):
    if kind != 0:
        return is_whole(number) and 0 <= number < kind
    return (isinstance(number, tuple) and len(number) == 2 and is_whole(number[0]) and is_whole(number[1])
            and number[1] > 0 and gcd(number[0], number[1]) == 1)


def rows_in_form(kind, rows, width):
    """Whether this is a list of lists, each of so many numbers in the one form."""
    return isinstance(rows, list) and all(
        isinstance(row, list) and len(row) == width and all(in_form(kind, x) for x in row) for row in rows)


def by_dice(dice_box, kind, figures=3):
    """A number; nought and one come up more often than others."""
    if dice_box.random() < 0.25:
        return told(kind, dice_box.randint(0, 1))
    if kind != 0:
        return dice_box.randrange(kind)
    most = 10 ** figures - 1
    return told(0, Fraction(dice_box.randint(-most, most), dice_box.randint(1, most)))


def table_by_dice(dice_box, kind, rows, columns, figures=3):
    return [[by_dice(dice_box, kind, figures) for _ in range(columns)] for _ in range(rows)]


def thin_by_dice(dice_box, kind, rows, columns, rank):
    """Rows that are sums of multiples of `rank` rows, so that there are told ones less."""
    few = table_by_dice(dice_box, kind, rank, columns)
    return [combined(kind, [by_dice(dice_box, kind) for _ in range(rank)], few, columns) for _ in range(rows)]


def combined(kind, factors, rows, width):
    """The sum of these multiples of the rows."""
    return [told(kind, sum((plain(kind, f) * plain(kind, row[k]) for f, row in zip(factors, rows)), 0))
            for k in range(width)]


def dot(kind, one, other):
    assert len(one) == len(other)
    return told(kind, sum((plain(kind, x) * plain(kind, y) for x, y in zip(one, other)), 0))


def columns_of(table):
    return [list(column) for column in zip(*table)]


def plain_product(kind, one, other):
    return [[dot(kind, row, column) for column in columns_of(other)] for row in one]


def unit_table(kind, size):
    return [[told(kind, 1 if i == k else 0) for k in range(size)] for i in range(size)]


def noughts(kind, width):
    return [told(kind, 0)] * width


def plain_over(kind, one, other):
    return one / other if kind == 0 else one * pow(other, -1, kind) % kind


def rank(kind, rows):
    """How many rows are left when those that follow from others are taken away."""
    left = [[plain(kind, x) for x in row] for row in rows]
    count = 0
    for column in range(len(left[0]) if left else 0):
        leading = [row for row in left if row[column] != 0]
        if not leading:
            continue
        count += 1
        head = leading[0]
        left = [row for row in left if row[column] == 0]
        for row in leading[1:]:
            factor = plain_over(kind, row[column], head[column])
            rest = [x - factor * y for x, y in zip(row, head)]
            left.append([x % kind for x in rest] if kind else rest)
    return count


def is_reduced(kind, rows):
    """Whether the rows stand in the reduced form, by its own words."""
    nought, one = told(kind, 0), told(kind, 1)
    leads = []
    for row in rows:
        places = [k for k, x in enumerate(row) if x != nought]
        if not places or row[places[0]] != one:
            return False
        leads.append(places[0])
    if any(left >= right for left, right in zip(leads, leads[1:])):
        return False
    return all(sum(row[k] != nought for row in rows) == 1 for k in leads)


def all_of_room(prime, rows, width):
    """Each row that the rows stand for, as a set of tuples."""
    return {tuple(combined(prime, factors, rows, width)) for factors in all_choices(range(prime), repeat=len(rows))}


def lists_within(value):
    """All lists in a value, itself among them."""
    found = [value] if isinstance(value, list) else []
    if isinstance(value, (list, tuple)):
        for part in value:
            found.extend(lists_within(part))
    return found

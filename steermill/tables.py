"""Tables of numbers: products, turned tables, the reduced form, solving and backs."""

from steermill.errors import NoBack
from steermill.numbers import minus, number
from steermill.wholes import quotient, scaled, sum_of_products, swept


def noughts(kind, width):
    """A row of noughts."""
    return [number(kind, 0)] * width


def nought_table(kind, rows, columns):
    """A table of noughts."""
    return [noughts(kind, columns) for row in range(rows)]


def copied(table):
    """The same table, with rows of its own."""
    return [list(row) for row in table]


def difference(kind, one, other):
    """The first row less the second, number by number."""
    return [minus(kind, left, right) for left, right in zip(one, other)]


def negative(kind, table):
    """The table with each number taken from nought."""
    return [difference(kind, noughts(kind, len(row)), row) for row in table]


def abreast(one, other):
    """The table whose rows are the first one's, each with the second one's behind it."""
    return [left + right for left, right in zip(one, other)]


def strung(rows):
    """The numbers of all rows, one row behind the other."""
    told = []
    for row in rows:
        told.extend(row)
    return told


def turned(table):
    """The table whose rows are the columns of this one."""
    return [[row[column] for row in table] for column in range(len(table[0]))]


def product(kind, one, other):
    """The first table's rows by the second one's columns."""
    columns = [scaled(kind, column) for column in turned(other)]
    told = []
    for row in one:
        left = scaled(kind, row)
        told.append([sum_of_products(kind, left, column) for column in columns])
    return told


def image(kind, table, row):
    """For each row of the table its sum of products with the told row."""
    right = scaled(kind, row)
    return [sum_of_products(kind, scaled(kind, left), right) for left in table]


def unit(kind, size):
    """The table with one where row and column are the same, else nought."""
    return [[number(kind, int(row == column)) for column in range(size)] for row in range(size)]


def corners(kind, one, other):
    """The table with the first one above on the left, the second one below on the right, and else noughts."""
    above = abreast(one, nought_table(kind, len(one), len(other[0])))
    return above + abreast(nought_table(kind, len(other), len(one[0])), other)


def over_one_bottom(kind, table):
    """A pair (rows, bottom): each number of the table is its whole number in the rows over the bottom."""
    width = len(table[0])
    pair = scaled(kind, strung(table))
    return ([pair[0][row * width:(row + 1) * width] for row in range(len(table))], pair[1])


def lead_of(kind, row):
    """The place of the row's first number that is not nought; the row is not all noughts."""
    nought = number(kind, 0)
    place = 0
    while row[place] == nought:
        place += 1
    return place


def over_lead(kind, wholes):
    """The numbers that the whole numbers make over the first of them that is not nought."""
    lead = [whole for whole in wholes if whole != 0][0]
    return [quotient(kind, whole, lead) for whole in wholes]


def reduced(kind, rows):
    """The reduced form of the rows, perhaps none."""
    # A row's bottom is left aside: a multiple of a row leads to the same form.
    wholes = [scaled(kind, row)[0] for row in rows]
    return [over_lead(kind, row) for row in swept(kind, wholes)]


def some_solution(kind, table, row):
    """A list whose image under the table is the row, or None where there is none."""
    width = len(table[0])
    told = noughts(kind, width)
    for line in reduced(kind, abreast(table, turned([row]))):
        place = lead_of(kind, line)
        if place == width:
            return None
        told[place] = line[width]
    return told


def solved(kind, table, row):
    """("found", x), where the image of x is the row, or ("never", y), where y shows that there is none."""
    found = some_solution(kind, table, row)
    if found is not None:
        return ("found", found)
    # Where no x is, there is always such a y: it is itself what a table with the columns as rows is solved for.
    goal = noughts(kind, len(table[0])) + [number(kind, 1)]
    return ("never", some_solution(kind, turned(table) + [row], goal))


def back(kind, table):
    """The table whose product with this one, on either side, is the unit."""
    size = len(table)
    units = unit(kind, size)
    rows = reduced(kind, abreast(table, units))
    if [row[:size] for row in rows] != units:
        raise NoBack("the table has no back")
    return [row[size:] for row in rows]

"""Great polynomials: the determinant of the unknown less a table."""

from steermill.tables import image, lead_of, over_one_bottom
from steermill.wholes import quotient, whole_image, whole_sum


def border_factors(rows, size):
    """What the polynomial of the first so many rows and columns is multiplied by, to take in one more of each.

    The first of the factors belongs to the same power, each further one to the next lower power.
    """
    inner = [row[:size] for row in rows[:size]]
    below = rows[size][:size]
    beside = [row[size] for row in rows[:size]]
    told = [1, -rows[size][size]]
    for step in range(size):
        if step > 0:
            beside = whole_image(inner, beside)
        told.append(-whole_sum(below, beside))
    return told


def whole_great(rows):
    """The great polynomial of rows of whole numbers, the highest number first."""
    # Samuelson's way, without any quotient: ways that divide by counts of rows fail by primes that divide these.
    told = [1]
    for size in range(len(rows)):
        backward = list(reversed(border_factors(rows, size)))
        told = [whole_sum(told, backward[size + 1 - place:]) for place in range(size + 2)]
    return told


def great(kind, table):
    """The great polynomial of the table, the lowest number first."""
    pair = over_one_bottom(kind, table)
    told = []
    bottom = 1
    for whole in whole_great(pair[0]):
        told.append(quotient(kind, whole, bottom))
        # The next lower power has one factor more of the table in it, each of them over the bottom.
        bottom *= pair[1]
    return list(reversed(told))


def great_on(kind, table, room):
    """The great polynomial of the table on a room, not [], in which the images of its rows lie."""
    leads = [lead_of(kind, row) for row in room]
    images = [image(kind, table, row) for row in room]
    # What lies in a room is the sum of its rows multiplied by the numbers that stand at the leads.
    return great(kind, [[row[lead] for lead in leads] for row in images])

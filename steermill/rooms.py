"""Rooms: reduced lists of rows that stand for all sums of multiples of them."""

from steermill.numbers import minus, number
from steermill.tables import image, lead_of, noughts, over_one_bottom, reduced, unit

# Two to the 61st less one.
GREAT_PRIME = 2305843009213693951


def joined(kind, one, other):
    """The room of all rows that are sums of one of each."""
    return reduced(kind, one + other)


def against_by(kind, n, rows, free):
    """A row against all these reduced rows: one at the free place, and at the leads what that asks for."""
    told = noughts(kind, n)
    told[free] = number(kind, 1)
    for row in rows:
        told[lead_of(kind, row)] = minus(kind, number(kind, 0), row[free])
    return told


def against(kind, n, room):
    """The room of all rows whose sum of products with each row of the room is nought."""
    rows = reduced(kind, room)
    leads = [lead_of(kind, row) for row in rows]
    return reduced(kind, [against_by(kind, n, rows, free) for free in range(n) if free not in leads])


def met(kind, n, one, other):
    """The room of all rows that lie in both."""
    # A row lies in a room just where it goes against all that goes against the room.
    return against(kind, n, joined(kind, against(kind, n, one), against(kind, n, other)))


def lies_in(kind, room, row):
    """Whether the row lies in the room."""
    return len(joined(kind, room, [row])) == len(room)


def widened(kind, table, rows, room):
    """The room of all sums of the rows and of images under the table of what lies in the room."""
    return joined(kind, rows, [image(kind, table, row) for row in room])


def grown_room(kind, table, rows):
    """The room of the rows, widened by images under the table for as long as that makes it wider."""
    room = reduced(kind, rows)
    wider = widened(kind, table, rows, room)
    # Each room lies in the next one, and where that has no row more, it is the same one from then on.
    while len(wider) > len(room):
        room = wider
        wider = widened(kind, table, rows, room)
    return room


def rests_of(table):
    """A table of fractions, or rather a multiple of it, as rests by the great prime."""
    return [[whole % GREAT_PRIME for whole in row] for row in over_one_bottom(0, table)[0]]


def least_room(kind, table, rows):
    """The least room in which the rows lie, and with each row its image under the table."""
    n = len(table)
    # What is all by rests of multiples is all by fractions too, and short rests are reckoned with faster by far.
    if kind == 0 and len(grown_room(GREAT_PRIME, rests_of(table), rests_of(rows))) == n:
        return unit(kind, n)
    return grown_room(kind, table, rows)

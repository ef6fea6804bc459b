"""Joined machines: side by side, one behind the other, and in a ring."""

from steermill.rules import ruled
from steermill.tables import abreast, copied, corners, nought_table, product


def beside(kind, one, other):
    """Both machines with the same inputs, of which what is seen is added up."""
    return (corners(kind, one[0], other[0]), copied(one[1] + other[1]), abreast(one[2], other[2]))


def behind(kind, one, other):
    """Both machines, where what is seen of the first is put into the second, of which alone something is seen."""
    first = len(one[0])
    second = len(other[0])
    above = abreast(one[0], nought_table(kind, first, second))
    below = abreast(product(kind, other[1], one[2]), other[0])
    B = copied(one[1]) + nought_table(kind, second, len(one[1][0]))
    return (above + below, B, abreast(nought_table(kind, len(other[2]), first), other[2]))


def ring(kind, machine):
    """The machine to whose inputs what is seen of it is added."""
    # What is seen of a standing is its image under C, so that C is the rule of what is added.
    return (ruled(kind, machine, machine[2]), copied(machine[1]), copied(machine[2]))

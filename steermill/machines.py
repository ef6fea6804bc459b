"""Machines (A, B, C): next standings, what is seen, runs, marks, and machines turned by a turn."""

from steermill.tables import abreast, image, product, turned


def leading(machine):
    """A and B side by side: the table that leads standing and inputs, one behind the other, to the next standing."""
    return abreast(machine[0], machine[1])


def next_of(kind, machine, standing, inputs):
    """The next standing: the image of the standing under A plus that of the inputs under B."""
    return image(kind, leading(machine), standing + inputs)


def drifted(kind, machine, standing):
    """The next standing where nothing is put in."""
    return image(kind, machine[0], standing)


def seen_of(kind, machine, standing):
    """What is seen of the standing."""
    return image(kind, machine[2], standing)


def run(kind, machine, standing, inputs):
    """What is seen of the standing ahead of each turn and of that behind the last."""
    here = standing
    told = [seen_of(kind, machine, here)]
    for put_in in inputs:
        here = next_of(kind, machine, here, put_in)
        told.append(seen_of(kind, machine, here))
    return told


def marks(kind, machine, many):
    """The first so many of the tables C B, C A B, C A A B and so on."""
    told = []
    left = machine[2]
    for place in range(many):
        if place > 0:
            left = product(kind, left, machine[0])
        told.append(product(kind, left, machine[1]))
    return told


def has_marks(kind, machine, told):
    """Whether these are the first marks of the machine."""
    return marks(kind, machine, len(told)) == told


def mirrored(machine):
    """The machine whose hands are the sights of this one, and whose sights are its hands."""
    return (turned(machine[0]), turned(machine[2]), turned(machine[1]))


def turned_by(kind, machine, T, S):
    """The machine (S A T, S B, C T)."""
    A = product(kind, product(kind, S, machine[0]), T)
    return (A, product(kind, S, machine[1]), product(kind, machine[2], T))

"""Seeing: what is never seen of a standing, and what can be told of one by what is seen."""

from steermill.machines import drifted, run, seen_of
from steermill.rooms import against, least_room
from steermill.tables import difference, noughts, product, some_solution, strung, turned


def unseen_room(kind, machine):
    """The greatest room of standings of which nought is seen, and whose images under A lie in it."""
    # The rows of C, C A, C A A and so on are what it goes against.
    return against(kind, len(machine[0]), least_room(kind, turned(machine[0]), machine[2]))


def told_apart(kind, machine, one, other):
    """("apart", k), where k turns are the fewest behind which both are seen to differ, or ("alike",)."""
    nothing = noughts(kind, len(machine[2]))
    # The same inputs move both by the same, so that the difference runs as if nothing were put in.
    between = difference(kind, one, other)
    for turns in range(len(one)):
        if seen_of(kind, machine, between) != nothing:
            return ("apart", turns)
        between = drifted(kind, machine, between)
    return ("alike",)


def sights_of_turns(kind, machine, many):
    """The rows of C, C A, C A A and so on, of so many tables."""
    block = machine[2]
    told = list(block)
    for turn in range(many - 1):
        block = product(kind, block, machine[0])
        told.extend(block)
    return told


def standings(kind, machine, answers):
    """("standing", x, room) of the standings that give these answers without inputs, or ("never",)."""
    n = len(machine[0])
    # What n answers leave open is never seen, so that further ones only hold for all that is left or for none.
    first = answers[:n]
    rows = sights_of_turns(kind, machine, len(first))
    found = some_solution(kind, rows, strung(first))
    if found is None:
        return ("never",)
    resting = [noughts(kind, len(machine[1][0])) for answer in answers[1:]]
    if run(kind, machine, found, resting) != answers:
        return ("never",)
    return ("standing", found, against(kind, n, rows))

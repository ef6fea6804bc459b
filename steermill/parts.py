"""Parts: machines parted in four by what is steered and seen, and the core, which is both."""

from steermill.machines import turned_by
from steermill.rooms import joined, met
from steermill.seeing import unseen_room
from steermill.steering import steered_room
from steermill.tables import back, turned, unit


def picked(kind, room, rows):
    """Those of the rows that lie neither in the room nor among sums with the ones picked ahead of them."""
    told = []
    wide = room
    for row in rows:
        wider = joined(kind, wide, [row])
        if len(wider) > len(wide):
            told.append(row)
            wide = wider
    return told


def stretches(kind, machine):
    """Four lists of standings: steered and unseen; more that are steered; more that are unseen; all else."""
    n = len(machine[0])
    steered = steered_room(kind, machine)
    unseen = unseen_room(kind, machine)
    both = met(kind, n, steered, unseen)
    others = picked(kind, joined(kind, steered, unseen), unit(kind, n))
    return [both, picked(kind, both, steered), picked(kind, both, unseen), others]


def parting(kind, machine):
    """A tuple (T, S, sizes): the turn that parts the machine in four stretches of these sizes."""
    four = stretches(kind, machine)
    T = turned(four[0] + four[1] + four[2] + four[3])
    return (T, back(kind, T), tuple([len(stretch) for stretch in four]))


def core(kind, machine):
    """("core", machine), the part that is steered and seen, or ("none",) where there is none."""
    parts = parting(kind, machine)
    start = parts[2][0]
    end = start + parts[2][1]
    if start == end:
        return ("none",)
    # The second stretch alone: its columns of T and its rows of S.
    return ("core", turned_by(kind, machine, [row[start:end] for row in parts[0]], parts[1][start:end]))

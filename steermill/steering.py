"""Steering: the standings that inputs lead to, and the inputs that lead from a start to a goal."""

from steermill.machines import drifted
from steermill.rooms import least_room, lies_in, widened
from steermill.tables import abreast, difference, nought_table, product, solved, turned


def steered_room(kind, machine):
    """The room of all standings that some inputs lead to from nought."""
    return least_room(kind, machine[0], turned(machine[1]))


def left_to_go(kind, machine, start, goal, turns):
    """The goal less the standing that the start comes to where nothing is put in."""
    here = start
    for turn in range(turns):
        here = drifted(kind, machine, here)
    return difference(kind, goal, here)


def moved_by(kind, machine, turns):
    """The table whose image of all inputs, the last turn's first, is what they lead to from nought."""
    # A column of noughts stands ahead, so that without turns this is a table too.
    told = nought_table(kind, len(machine[1]), 1)
    block = machine[1]
    for turn in range(turns):
        if turn > 0:
            block = product(kind, machine[0], block)
        told = abreast(told, block)
    return told


def in_turn(strung_out, hands):
    """The inputs, a list for each turn, that stand in a list as moved_by asks for them."""
    last_first = [strung_out[place:place + hands] for place in range(1, len(strung_out), hands)]
    return list(reversed(last_first))


def steer(kind, machine, start, goal, turns):
    """("inputs", us), where us lead from start to goal in so many turns, or ("never", z), where z shows none do."""
    hands = len(machine[1][0])
    # Wherever many turns lead from nought, the last n of them do, so the ones ahead of these may rest.
    used = min(turns, len(start))
    answer = solved(kind, moved_by(kind, machine, used), left_to_go(kind, machine, start, goal, turns))
    if answer[0] == "never":
        return answer
    return ("inputs", nought_table(kind, turns - used, hands) + in_turn(answer[1], hands))


def fewest(kind, machine, start, goal, most):
    """The least count of turns, of at most so many, in which inputs lead from start to goal, or None."""
    columns = turned(machine[1])
    room = []
    here = start
    for turns in range(most + 1):
        if lies_in(kind, room, difference(kind, goal, here)):
            return turns
        room = widened(kind, machine[0], columns, room)
        here = drifted(kind, machine, here)
    return None

"""Rules: inputs made of the standing, by which a machine runs down as wished."""

from steermill.machines import drifted, leading, next_of
from steermill.numbers import number
from steermill.polys import great_on
from steermill.rooms import against, lies_in
from steermill.steering import steered_room
from steermill.tables import back, difference, image, noughts, product, reduced, turned, unit


def ruled(kind, machine, F):
    """The table A plus B F, by which the machine runs by the rule F."""
    # The unit with F below it makes of a standing that standing and, behind it, its inputs.
    return product(kind, leading(machine), unit(kind, len(machine[0])) + F)


def free_hand(kind, columns, room):
    """The first of the hands whose column of B does not lie in the room; there is one."""
    hand = 0
    while lies_in(kind, room, columns[hand]):
        hand += 1
    return hand


def chain(kind, machine, hand):
    """A pair (standings, inputs): from the hand's column on, each with its inputs leads to the next one.

    There are n of each, no standing is a sum of multiples of the others, and the last inputs are noughts.
    """
    columns = turned(machine[1])
    here = columns[hand]
    standings = [here]
    inputs = []
    while len(standings) < len(here):
        room = reduced(kind, standings)
        put_in = noughts(kind, len(columns))
        if lies_in(kind, room, drifted(kind, machine, here)):
            # All images of the room lie in it then, so that it is all that is steered unless a hand leads out of it.
            put_in = unit(kind, len(columns))[free_hand(kind, columns, room)]
        here = next_of(kind, machine, here, put_in)
        standings.append(here)
        inputs.append(put_in)
    return (standings, inputs + [noughts(kind, len(columns))])


def row_of_polynomial(kind, table, row, polynomial):
    """The row times the polynomial of the table."""
    columns = turned(table + [row])
    told = row
    for factor in reversed(polynomial[:-1]):
        told = image(kind, columns, told + [factor])
    return told


def rule_for(kind, machine, polynomial):
    """("rule", F), where A plus B F has this great polynomial, or ("fixed", f), where f divides that of any rule."""
    n = len(machine[0])
    steered = steered_room(kind, machine)
    if len(steered) < n:
        return ("fixed", great_on(kind, turned(machine[0]), against(kind, n, steered)))
    hand = free_hand(kind, turned(machine[1]), [])
    led = chain(kind, machine, hand)
    backs = back(kind, led[0])
    # By this rule alone the one hand steers all, and further rules are a matter of that hand (Heymann's way).
    F = turned(product(kind, backs, led[1]))
    last = [row[n - 1] for row in backs]
    # With one hand the rule is known in closed form (Ackermann's).
    F[hand] = difference(kind, F[hand], row_of_polynomial(kind, ruled(kind, machine, F), last, polynomial))
    return ("rule", F)


def rest_rule(kind, machine):
    """The rule by which every standing comes to nought, told as by rule_for."""
    return rule_for(kind, machine, noughts(kind, len(machine[0])) + [number(kind, 1)])

"""Watchers: guesses of the standing made of what is seen, and machines run by their guesses."""

from steermill.machines import mirrored
from steermill.rules import rule_for, ruled
from steermill.tables import abreast, difference, negative, product, turned


def watcher_for(kind, machine, polynomial):
    """("watcher", L), where A plus L C has this great polynomial, or ("fixed", f), where f divides that of any."""
    # Turned over, A plus L C is what the mirrored machine runs by under the turned L as its rule, and what is unseen
    # here is against all that is steered there.
    answer = rule_for(kind, mirrored(machine), polynomial)
    if answer[0] == "fixed":
        return answer
    return ("watcher", turned(answer[1]))


def put_together(kind, machine, F, L):
    """The table that leads standing and guess, one behind the other, to the next, where the rule goes by the guess."""
    by_guess = product(kind, machine[1], F)
    missed = negative(kind, product(kind, L, machine[2]))
    inner = ruled(kind, machine, F)
    below = [left + difference(kind, right, left) for left, right in zip(missed, inner)]
    return abreast(machine[0], by_guess) + below

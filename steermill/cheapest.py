"""The cheapest inputs, by fractions: of all that lead from a start to a goal, those of the least sum of squares."""

from steermill.steering import in_turn, left_to_go, moved_by
from steermill.tables import image, product, solved, turned


def cheapest(machine, start, goal, turns):
    """("inputs", us, cost), where us lead from start to goal in so many turns, or ("never", z), where none do."""
    moved = moved_by(0, machine, turns)
    # The cheapest inputs are a sum of multiples of the rows, for what goes against all rows moves nothing and costs.
    # By fractions no row but noughts goes against itself, so that a z against this product goes against all columns.
    answer = solved(0, product(0, moved, turned(moved)), left_to_go(0, machine, start, goal, turns))
    if answer[0] == "never":
        return answer
    inputs = image(0, turned(moved), answer[1])
    return ("inputs", in_turn(inputs, len(machine[1][0])), image(0, [inputs], inputs)[0])

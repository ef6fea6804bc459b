"""Least machines: machines read off their marks, and machines compared by them."""

from steermill.joins import beside
from steermill.machines import has_marks, mirrored
from steermill.numbers import number
from steermill.rooms import joined
from steermill.seeing import unseen_room
from steermill.steering import steered_room
from steermill.tables import back, lead_of, negative, over_one_bottom, strung, turned
from steermill.wholes import whole_image


def answers_from(marks, start, many):
    """For each hand what is seen in so many marks from this one on, one behind the other."""
    columns = [turned(mark) for mark in marks[start:start + many]]
    return [strung([column[hand] for column in columns]) for hand in range(len(columns[0]))]


def room_of_answers(kind, marks, most):
    """The room of all answers, where these marks are those of a machine of at most so many numbers."""
    room = []
    for start in range(most):
        wider = joined(kind, room, answers_from(marks, start, most + 1))
        # What one turn adds nothing to, no further turn of such a machine does; nor has it more rows than numbers.
        if len(wider) == len(room) or len(wider) > most:
            return wider
        room = wider
    return room


def machine_on(marks, room, leads):
    """The machine whose standings are the answers of the room, told by the numbers at the leads."""
    sights = len(marks[0])
    firsts = answers_from(marks, 0, len(marks))
    A = turned([[row[sights + lead] for lead in leads] for row in room])
    B = turned([[row[lead] for lead in leads] for row in firsts])
    return (A, B, turned([row[:sights] for row in room]))


def least_of(kind, marks):
    """The least machine of these 2 N marks, not all noughts, or None where none of at most N numbers has them."""
    most = len(marks) // 2
    room = room_of_answers(kind, marks, most)
    leads = [lead_of(kind, row) for row in room]
    # A turn moves answers on by one mark, so that what the last mark alone tells apart is held by no number.
    if len(room) == 0 or len(room) > most or leads[-1] >= most * len(marks[0]):
        return None
    machine = machine_on(marks, room, leads)
    # The room is right if there is such a machine at all.
    return machine if has_marks(kind, machine, marks) else None


def read_off(kind, marks):
    """("machine", A, B, C), the least of these 2 N marks, of at most N numbers, or ("nought",), or ("none",)."""
    if all([number(kind, 0) == part for part in strung(strung(marks))]):
        return ("nought",)
    # The fewer the sights, the shorter the answers are; mirrored, a machine has turned marks.
    many_sights = len(marks[0]) > len(marks[0][0])
    machine = least_of(kind, [turned(mark) for mark in marks] if many_sights else marks)
    if machine is None:
        return ("none",)
    if many_sights:
        machine = mirrored(machine)
    return ("machine", machine[0], machine[1], machine[2])


def first_mark_seen(kind, machine):
    """The number of the first mark of the machine that is not all noughts, or None where there is none."""
    # Only whether a sum is nought is asked, so multiples that are whole numbers do, which is faster by far.
    A = over_one_bottom(kind, machine[0])[0]
    C = over_one_bottom(kind, machine[2])[0]
    columns = turned(over_one_bottom(kind, machine[1])[0])
    for place in range(len(A)):
        for column in columns:
            if any([number(kind, whole) != number(kind, 0) for whole in whole_image(C, column)]):
                return place
        columns = [whole_image(A, column) for column in columns]
    return None


def first_apart(kind, one, other):
    """The number of the first mark by which the machines differ, or None where all are the same."""
    # Side by side with the second one's sights taken from nought, the marks are the differences.
    return first_mark_seen(kind, beside(kind, one, (other[0], other[1], negative(kind, other[2]))))


def is_least(kind, machine):
    """Whether all of the machine is steered and seen."""
    return len(steered_room(kind, machine)) == len(machine[0]) and unseen_room(kind, machine) == []


def compared(kind, one, other):
    """("apart", k), where the marks number k are the first to differ, ("turn", T, S), or ("alike",)."""
    place = first_apart(kind, one, other)
    if place is not None:
        return ("apart", place)
    if not is_least(kind, one) or not is_least(kind, other):
        return ("alike",)
    # The same inputs lead from nought to each standing of the first and to what S makes of it in the second.
    S = turned([row[len(one[0]):] for row in steered_room(kind, beside(kind, one, other))])
    return ("turn", back(kind, S), S)

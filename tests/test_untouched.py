"""[2] What is handed in stays as it was, and what is told is the asker's own."""

import unittest
from copy import deepcopy

from steermill.cheapest import cheapest
from steermill.desk import Desk
from steermill.errors import MillError, NoBack, NoText
from steermill.joins import behind, beside, ring
from steermill.least import compared, read_off
from steermill.machines import marks, next_of, run, seen_of, turned_by
from steermill.numbers import minus, number, over, plus, times
from steermill.parts import core, parting
from steermill.polys import great
from steermill.rooms import against, joined, lies_in, met
from steermill.rules import rest_rule, rule_for
from steermill.seeing import standings, told_apart, unseen_room
from steermill.steering import fewest, steer, steered_room
from steermill.tables import back, image, product, reduced, solved, turned
from steermill.texts import read_table, show_table
from steermill.watchers import put_together, watcher_for
from tests.helper import (KINDS, chain_machine, dice, in_form, lists_within, machine_by_dice, nought_machine,
                          noughts, plain_end, plain_marks, plain_run, plain_turned_by, poly_by_dice, resting,
                          row_by_dice, row_of, rule_by_dice, sizes_of, table_by_dice, table_of, to_rest, told,
                          turn_by_dice, unit_table, watcher_by_dice)

# What is not a list.
TOLD_AS = {solved: (tuple,), lies_in: (bool,), turned_by: (tuple,), steer: (tuple,), fewest: (int, type(None)),
           told_apart: (tuple,), standings: (tuple,), parting: (tuple,), core: (tuple,), rule_for: (tuple,),
           rest_rule: (tuple,), watcher_for: (tuple,), read_off: (tuple,), compared: (tuple,), beside: (tuple,),
           behind: (tuple,), ring: (tuple,), cheapest: (tuple,), show_table: (str,)}


def asked_of_tables(kind):
    """Each function with what it is handed, such that some of it could be told as it stands."""
    square = table_of(kind, (1, 1, 0), (0, 1, 1), (0, 0, 1))
    wide = table_of(kind, (1, 0, 1, 1), (0, 1, 1, 0), (1, 1, 0, 1))
    row = row_of(kind, 1, 1, 0)
    units = unit_table(kind, 3)
    room = table_of(kind, (1, 0, 1), (0, 1, 1))
    return [
        (product, [kind, square, wide]), (product, [kind, units, square]), (product, [kind, square, units]),
        (product, [kind, square, square]),
        (turned, [square]), (turned, [wide]), (turned, [[row]]),
        (image, [kind, units, row]), (image, [kind, square, row]),
        (reduced, [kind, []]), (reduced, [kind, wide]), (reduced, [kind, room]), (reduced, [kind, units]),
        (reduced, [kind, [row, row]]), (reduced, [kind, [noughts(kind, 3), row]]),
        (solved, [kind, units, row]), (solved, [kind, square, row]), (solved, [kind, wide, row]),
        (solved, [kind, [row, row, row], row]), (solved, [kind, [noughts(kind, 3)] * 3, row]),
        (back, [kind, square]), (back, [kind, units]),
        (joined, [kind, [], []]), (joined, [kind, room, []]), (joined, [kind, [], room]), (joined, [kind, room, room]),
        (joined, [kind, room, units]),
        (met, [kind, 3, [], room]), (met, [kind, 3, room, room]), (met, [kind, 3, room, units]),
        (met, [kind, 3, units, room]),
        (against, [kind, 3, []]), (against, [kind, 3, room]), (against, [kind, 3, units]),
        (lies_in, [kind, room, row]), (lies_in, [kind, [], row]), (lies_in, [kind, units, row]),
        (great, [kind, square]), (great, [kind, units]), (great, [kind, [row[:1]]]), (great, [kind, [row] * 3]),
        (read_off, [kind, [square] * 2]), (read_off, [kind, [square] * 6]), (read_off, [kind, [wide] * 8]),
        (read_off, [kind, [units, square, units, square]]), (read_off, [kind, [[row], [row]]]),
        (read_off, [kind, [[noughts(kind, 2)]] * 4]),
        (show_table, [kind, square]), (show_table, [kind, [row, row]]), (read_table, [kind, "1"]),
        (read_table, [kind, "1 0; 1 0; 1 0"]), (read_table, [kind, "0 0 0 0; 0 0 0 0"]),
    ]


def untouched_machines(kind):
    """Machines of units and noughts, whose tables could be told as they stand, and others."""
    box = dice("untouched machines")
    units = unit_table(kind, 3)
    return [
        (units, unit_table(kind, 3), unit_table(kind, 3)), (units, units, units), nought_machine(kind, 3, 2, 1),
        nought_machine(kind, 1, 1, 1), chain_machine(kind, (0, 3, 0, 0)), chain_machine(kind, (1, 1, 1, 1)),
        plain_turned_by(kind, chain_machine(kind, (1, 2, 1, 1)), *turn_by_dice(box, kind, 5)),
        machine_by_dice(box, kind, 2, 1, 1), machine_by_dice(box, kind, 4, 2, 3),
    ]


def asked_of_machine(kind, machine):
    box = dice("untouched standings")
    n, hands, sights = sizes_of(machine)
    start, goal, nought = row_by_dice(box, kind, n), row_by_dice(box, kind, n), noughts(kind, n)
    inputs = table_by_dice(box, kind, 3, hands)
    led_to = plain_end(kind, machine, start, inputs)
    seen = plain_run(kind, machine, start, resting(kind, machine, n + 1))
    units = unit_table(kind, n)
    T, S = turn_by_dice(box, kind, n)
    asked = [
        (next_of, [start, inputs[0]]), (next_of, [nought, inputs[0]]), (seen_of, [start]), (seen_of, [nought]),
        (run, [start, []]), (run, [start, inputs]), (run, [nought, [inputs[0]] * 3]),
        (marks, [0]), (marks, [1]), (marks, [4]), (turned_by, [units, units]), (turned_by, [T, S]),
        (steered_room, []), (steer, [start, start, 0]), (steer, [start, goal, 0]), (steer, [start, goal, 2]),
        (steer, [start, led_to, 3]), (steer, [nought, nought, 8]), (fewest, [start, start, 3]),
        (fewest, [start, led_to, 3]), (fewest, [start, goal, 3]),
        (unseen_room, []), (told_apart, [start, start]), (told_apart, [start, goal]), (told_apart, [start, nought]),
        (standings, [seen[:1]]), (standings, [seen]), (standings, [[noughts(kind, sights)] * 3]),
        (standings, [table_by_dice(box, kind, n + 1, sights)]), (parting, []), (core, []),
    ]
    return [(function, [kind, machine] + handed) for function, handed in asked]


def asked_of_rules(kind, machine):
    box = dice("untouched rules")
    n, hands, sights = sizes_of(machine)
    wished, rest = poly_by_dice(box, kind, n), to_rest(kind, n)
    F, L = rule_by_dice(box, kind, machine), watcher_by_dice(box, kind, machine)
    idle = [noughts(kind, n)] * hands, [noughts(kind, sights)] * n
    other = plain_turned_by(kind, machine, *turn_by_dice(box, kind, n))
    asked = [
        (rule_for, [wished]), (rule_for, [rest]), (rest_rule, []), (watcher_for, [wished]), (watcher_for, [rest]),
        (put_together, [F, L]), (put_together, [idle[0], idle[1]]),
        (compared, [machine]), (compared, [other]), (compared, [machine_by_dice(box, kind, 2, hands, sights)]),
    ]
    told_marks = plain_marks(kind, machine, 2 * n)
    return ([(function, [kind, machine] + handed) for function, handed in asked]
            + [(read_off, [kind, told_marks]), (read_off, [kind, told_marks[:2]])])


def asked_of_joins(kind, machine):
    box = dice("untouched joins")
    n, hands, sights = sizes_of(machine)
    asked = [(beside, [kind, machine, machine]),
             (beside, [kind, machine, machine_by_dice(box, kind, 2, hands, sights)]),
             (beside, [kind, nought_machine(kind, 1, hands, sights), machine]),
             (behind, [kind, machine, machine_by_dice(box, kind, 3, sights, 2)]),
             (behind, [kind, machine_by_dice(box, kind, 2, 3, hands), machine]),
             (behind, [kind, machine, nought_machine(kind, 2, sights, 1)])]
    if hands == sights:
        asked += [(ring, [kind, machine]), (behind, [kind, machine, machine])]
    return asked


def asked_of_cheapest(machine):
    box = dice("untouched costs")
    n, hands, sights = sizes_of(machine)
    start, goal, nought = row_by_dice(box, 0, n), row_by_dice(box, 0, n), noughts(0, n)
    led_to = plain_end(0, machine, start, table_by_dice(box, 0, 3, hands))
    return [(cheapest, [machine] + handed) for handed in (
        [start, start, 0], [start, goal, 0], [start, goal, 2], [start, led_to, 3], [nought, nought, 8])]


def asked(kind):
    told_cases = asked_of_tables(kind)
    for machine in untouched_machines(kind):
        told_cases += asked_of_machine(kind, machine) + asked_of_rules(kind, machine) + asked_of_joins(kind, machine)
        if kind == 0:
            told_cases += asked_of_cheapest(machine)
    return told_cases


def spoil(value):
    """Changes every list in what was told."""
    for found in lists_within(value):
        found.clear()
        found.append("changed")


class Untouched(unittest.TestCase):
    def test_what_is_handed_in_stays_and_is_not_shared(self):
        for kind in KINDS:
            for function, handed in asked(kind):
                case = (kind, function, deepcopy(handed))
                before = deepcopy(handed)
                answer = function(*handed)
                self.assertEqual(handed, before, case)
                theirs = [id(found) for found in lists_within(handed)]
                ours = [id(found) for found in lists_within(answer)]
                self.assertEqual([one for one in ours if one in theirs], [], case)
                self.assertEqual(len(set(ours)), len(ours), case)

    def test_what_was_told_may_be_changed(self):
        for kind in KINDS:
            for function, handed in asked(kind):
                case = (kind, function, deepcopy(handed))
                before = deepcopy(handed)
                answer = function(*handed)
                kept = deepcopy(answer)
                other = function(*handed)
                spoil(other)
                self.assertEqual(answer, kept, case)
                self.assertEqual(handed, before, case)
                self.assertEqual(function(*handed), kept, case)

    def test_what_was_handed_in_may_be_changed_afterwards(self):
        for kind in KINDS:
            for function, handed in asked(kind):
                case = (kind, function, deepcopy(handed))
                # Several cases share their tables, so only a copy may be spoilt.
                copied = deepcopy(handed)
                answer = function(*copied)
                kept = deepcopy(answer)
                spoil(copied)
                self.assertEqual(answer, kept, case)

    def test_a_refusal_changes_nothing(self):
        for kind in KINDS:
            table = table_of(kind, (0, 1, 1), (1, 0, 1), (1, 1, 2))
            before = deepcopy(table)
            with self.assertRaises(NoBack):
                back(kind, table)
            self.assertEqual(table, before)

    def test_what_is_no_text_is_left_as_it_is_too(self):
        for kind in KINDS:
            rows = [["1", "0"], ["kind 0"]]
            before = deepcopy(rows)
            with self.assertRaises(NoText):
                read_table(kind, rows)
            with self.assertRaises(MillError):
                Desk().say(rows)
            self.assertEqual(rows, before)

    def test_tables_read_twice_are_two(self):
        for kind in KINDS:
            one, other = read_table(kind, "1 0; 1 0"), read_table(kind, "1 0; 1 0")
            spoil(one)
            self.assertEqual(other, table_of(kind, (1, 0), (1, 0)))


class Kinds(unittest.TestCase):
    def test_what_sort_of_value_is_told(self):
        for kind in KINDS:
            for function, handed in asked(kind):
                wanted = TOLD_AS.get(function, (list,))
                self.assertIn(type(function(*handed)), wanted, (kind, function))

    def test_whole_numbers_are_no_truths(self):
        for kind in KINDS:
            one = told(kind, 1)
            for answer in (number(kind, 1), plus(kind, one, told(kind, 0)), minus(kind, one, told(kind, 0)),
                           times(kind, one, one), over(kind, one, one), number(kind, 0)):
                self.assertTrue(in_form(kind, answer), (kind, answer))
            for function, handed in asked(kind):
                for found in lists_within(function(*handed)):
                    for part in found:
                        self.assertTrue(isinstance(part, list) or in_form(kind, part), (kind, function, part))


if __name__ == "__main__":
    unittest.main()

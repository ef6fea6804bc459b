"""[2] What is handed in stays as it was, and what is told is the asker's own."""

import unittest
from copy import deepcopy

from steermill.errors import NoBack
from steermill.numbers import minus, number, over, plus, times
from steermill.rooms import against, joined, lies_in, met
from steermill.tables import back, image, product, reduced, solved, turned
from tests.helper import KINDS, in_form, lists_within, noughts, row_of, table_of, told, unit_table


def asked_of_tables(kind):
    """Each function with what it is handed, such that some of it could be told as it stands."""
    square = table_of(kind, (1, 1, 0), (0, 1, 1), (0, 0, 1))
    wide = table_of(kind, (1, 0, 1, 1), (0, 1, 1, 0), (1, 1, 0, 1))
    row = row_of(kind, 1, 1, 0)
    units = unit_table(kind, 3)
    room = table_of(kind, (1, 0, 1), (0, 1, 1))
    return [
        (product, [kind, square, wide]), (product, [kind, units, square]), (product, [kind, square, units]),
        (product, [kind, square, square]),
        (turned, [square]), (turned, [wide]), (turned, [[row]]),
        (image, [kind, units, row]), (image, [kind, square, row]),
        (reduced, [kind, []]), (reduced, [kind, wide]), (reduced, [kind, room]), (reduced, [kind, units]),
        (reduced, [kind, [row, row]]), (reduced, [kind, [noughts(kind, 3), row]]),
        (solved, [kind, units, row]), (solved, [kind, square, row]), (solved, [kind, wide, row]),
        (solved, [kind, [row, row, row], row]), (solved, [kind, [noughts(kind, 3)] * 3, row]),
        (back, [kind, square]), (back, [kind, units]),
        (joined, [kind, [], []]), (joined, [kind, room, []]), (joined, [kind, [], room]), (joined, [kind, room, room]),
        (joined, [kind, room, units]),
        (met, [kind, 3, [], room]), (met, [kind, 3, room, room]), (met, [kind, 3, room, units]),
        (met, [kind, 3, units, room]),
        (against, [kind, 3, []]), (against, [kind, 3, room]), (against, [kind, 3, units]),
        (lies_in, [kind, room, row]), (lies_in, [kind, [], row]), (lies_in, [kind, units, row]),
    ]


def spoil(value):
    """Changes every list in what was told."""
    for found in lists_within(value):
        found.clear()
        found.append("changed")


class Untouched(unittest.TestCase):
    def test_what_is_handed_in_stays_and_is_not_shared(self):
        for kind in KINDS:
            for function, handed in asked_of_tables(kind):
                case = (kind, function, deepcopy(handed))
                before = deepcopy(handed)
                answer = function(*handed)
                self.assertEqual(handed, before, case)
                theirs = [id(found) for found in lists_within(handed)]
                ours = [id(found) for found in lists_within(answer)]
                self.assertEqual([one for one in ours if one in theirs], [], case)
                self.assertEqual(len(set(ours)), len(ours), case)

    def test_what_was_told_may_be_changed(self):
        for kind in KINDS:
            for function, handed in asked_of_tables(kind):
                case = (kind, function, deepcopy(handed))
                before = deepcopy(handed)
                answer = function(*handed)
                kept = deepcopy(answer)
                other = function(*handed)
                spoil(other)
                self.assertEqual(answer, kept, case)
                self.assertEqual(handed, before, case)
                self.assertEqual(function(*handed), kept, case)

    def test_what_was_handed_in_may_be_changed_afterwards(self):
        for kind in KINDS:
            for function, handed in asked_of_tables(kind):
                case = (kind, function, deepcopy(handed))
                # Several cases share their tables, so only a copy may be spoilt.
                copied = deepcopy(handed)
                answer = function(*copied)
                kept = deepcopy(answer)
                spoil(copied)
                self.assertEqual(answer, kept, case)

    def test_a_refusal_changes_nothing(self):
        for kind in KINDS:
            table = table_of(kind, (0, 1, 1), (1, 0, 1), (1, 1, 2))
            before = deepcopy(table)
            with self.assertRaises(NoBack):
                back(kind, table)
            self.assertEqual(table, before)


class Kinds(unittest.TestCase):
    def test_what_sort_of_value_is_told(self):
        for kind in KINDS:
            for function, handed in asked_of_tables(kind):
                wanted = {solved: tuple, lies_in: bool}.get(function, list)
                self.assertIs(type(function(*handed)), wanted, (kind, function))

    def test_whole_numbers_are_no_truths(self):
        for kind in KINDS:
            one = told(kind, 1)
            for answer in (number(kind, 1), plus(kind, one, told(kind, 0)), minus(kind, one, told(kind, 0)),
                           times(kind, one, one), over(kind, one, one), number(kind, 0)):
                self.assertTrue(in_form(kind, answer), (kind, answer))
            for function, handed in asked_of_tables(kind):
                for found in lists_within(function(*handed)):
                    for part in found:
                        self.assertTrue(isinstance(part, list) or in_form(kind, part), (kind, function, part))


if __name__ == "__main__":
    unittest.main()

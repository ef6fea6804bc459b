"""[8] Next standings, what is seen, runs and marks; [9] machines turned by a turn."""

import unittest

from steermill.machines import marks, next_of, run, seen_of, turned_by
from tests.helper import (KINDS, columns_of, dice, is_machine, machine_by_dice, machines_of, nought_machine, noughts,
                          plain_image, plain_marks, plain_next, plain_run, plain_turned_by, resting, row_by_dice,
                          row_of, rows_in_form, sizes_of, table_by_dice, table_of, told, turn_by_dice, unit_table)


def known_machine(kind):
    return (table_of(kind, (0, 1), (-1, 2)), table_of(kind, (0, 1), (1, 0)), table_of(kind, (1, 1)))


class NextStandings(unittest.TestCase):
    def test_images_under_a_and_b_are_added(self):
        box = dice("next inputs")
        for kind, machine in machines_of("next"):
            n, hands, sights = sizes_of(machine)
            standing, inputs = row_by_dice(box, kind, n), row_by_dice(box, kind, hands)
            answer = next_of(kind, machine, standing, inputs)
            self.assertTrue(rows_in_form(kind, [answer], n), (kind, machine))
            self.assertEqual(answer, plain_next(kind, machine, standing, inputs), (kind, machine, standing, inputs))

    def test_without_inputs_and_from_nought(self):
        for kind in KINDS:
            machine = known_machine(kind)
            self.assertEqual(next_of(kind, machine, row_of(kind, 3, 5), row_of(kind, 0, 0)), row_of(kind, 5, 7))
            self.assertEqual(next_of(kind, machine, row_of(kind, 0, 0), row_of(kind, 4, 6)), row_of(kind, 6, 4))
            self.assertEqual(next_of(kind, machine, row_of(kind, 3, 5), row_of(kind, 4, 6)), row_of(kind, 11, 11))
            self.assertEqual(next_of(kind, machine, row_of(kind, 0, 0), row_of(kind, 0, 0)), row_of(kind, 0, 0))

    def test_known_numbers(self):
        half = ([[(1, 2)]], [[(1, 3)]], [[(2, 1)]])
        self.assertEqual(next_of(0, half, [(1, 1)], [(-3, 2)]), [(0, 1)])
        self.assertEqual(next_of(0, half, [(-1, 3)], [(1, 1)]), [(1, 6)])
        self.assertEqual(next_of(97, ([[96]], [[1, 2, 3]], [[1]]), [1], [1, 1, 1]), [5])


class Seen(unittest.TestCase):
    def test_is_the_image_under_c(self):
        box = dice("seen standings")
        for kind, machine in machines_of("seen"):
            n, hands, sights = sizes_of(machine)
            standing = row_by_dice(box, kind, n)
            answer = seen_of(kind, machine, standing)
            self.assertTrue(rows_in_form(kind, [answer], sights), (kind, machine))
            self.assertEqual(answer, plain_image(kind, machine[2], standing), (kind, machine, standing))

    def test_known_ones(self):
        for kind in KINDS:
            self.assertEqual(seen_of(kind, known_machine(kind), row_of(kind, 3, -2)), row_of(kind, 1))
            self.assertEqual(seen_of(kind, known_machine(kind), row_of(kind, 0, 0)), row_of(kind, 0))


class Runs(unittest.TestCase):
    def test_one_list_more_than_turns(self):
        box = dice("run inputs")
        for kind, machine in machines_of("runs"):
            n, hands, sights = sizes_of(machine)
            standing = row_by_dice(box, kind, n)
            for turns in (0, 1, 2, 5):
                inputs = [row_by_dice(box, kind, hands) for _ in range(turns)]
                answer = run(kind, machine, standing, inputs)
                self.assertEqual(len(answer), turns + 1)
                self.assertTrue(rows_in_form(kind, answer, sights), (kind, machine))
                self.assertEqual(answer, plain_run(kind, machine, standing, inputs), (kind, machine, standing, inputs))

    def test_of_no_turn_is_what_is_seen_at_once(self):
        for kind in KINDS:
            self.assertEqual(run(kind, known_machine(kind), row_of(kind, 3, 4), []), table_of(kind, (7,)))

    def test_known_ones(self):
        for kind in KINDS:
            machine = known_machine(kind)
            # (1, 2), then (2, 3) and (1, 0) put in, then (3, 5) and (0, 1) put in: (6, 7).
            inputs = table_of(kind, (0, 0), (1, 0), (0, 1))
            self.assertEqual(run(kind, machine, row_of(kind, 1, 2), inputs), table_of(kind, (3,), (5,), (8,), (13,)))
            self.assertEqual(run(kind, machine, row_of(kind, 1, 2), inputs[:1]), table_of(kind, (3,), (5,)))

    def test_fifteen_turns_of_long_numbers(self):
        box = dice("long runs")
        for kind in (0, 2, 97):
            machine = machine_by_dice(box, kind, 5, 3, 3, 6)
            standing = row_by_dice(box, kind, 5, 60)
            inputs = table_by_dice(box, kind, 15, 3, 60)
            self.assertEqual(run(kind, machine, standing, inputs), plain_run(kind, machine, standing, inputs))


class Marks(unittest.TestCase):
    def test_none_the_first_and_twelve(self):
        for kind, machine in machines_of("marks"):
            n, hands, sights = sizes_of(machine)
            self.assertEqual(marks(kind, machine, 0), [])
            for many in (1, 2, 12):
                answer = marks(kind, machine, many)
                self.assertEqual(len(answer), many)
                self.assertIs(type(answer), list)
                for mark in answer:
                    self.assertEqual(len(mark), sights)
                    self.assertTrue(rows_in_form(kind, mark, hands), (kind, machine))
                self.assertEqual(answer, plain_marks(kind, machine, many), (kind, machine))

    def test_known_ones(self):
        for kind in KINDS:
            machine = (table_of(kind, (2, 0), (0, -1)), table_of(kind, (1,), (1,)), table_of(kind, (1, 0), (1, 1)))
            wanted = [table_of(kind, (1,), (2,)), table_of(kind, (2,), (1,)), table_of(kind, (4,), (5,))]
            self.assertEqual(marks(kind, machine, 3), wanted)
            self.assertEqual(marks(kind, machine, 1), wanted[:1])

    def test_of_noughts(self):
        for kind in KINDS:
            self.assertEqual(marks(kind, nought_machine(kind, 3, 2, 1), 12), [table_of(kind, (0, 0))] * 12)

    def test_are_what_is_seen_behind_a_single_input(self):
        box = dice("marks and runs")
        for kind in KINDS:
            machine = machine_by_dice(box, kind, 4, 3, 2)
            found = marks(kind, machine, 12)
            for hand in range(3):
                once = noughts(kind, 3)
                once[hand] = told(kind, 1)
                seen = run(kind, machine, noughts(kind, 4), [once] + resting(kind, machine, 11))
                self.assertEqual(seen[0], noughts(kind, 2))
                self.assertEqual(seen[1:], [columns_of(mark)[hand] for mark in found])

    def test_of_machines_of_ten_numbers(self):
        box = dice("ten numbers")
        for kind in (0, 2, 97):
            machine = machine_by_dice(box, kind, 10, 2, 2, 2)
            self.assertEqual(marks(kind, machine, 12), plain_marks(kind, machine, 12))
            standing, inputs = row_by_dice(box, kind, 10), table_by_dice(box, kind, 4, 2)
            self.assertEqual(run(kind, machine, standing, inputs), plain_run(kind, machine, standing, inputs))


class Turns(unittest.TestCase):
    def check(self, kind, machine, T, S):
        answer = turned_by(kind, machine, T, S)
        self.assertTrue(is_machine(kind, answer, *sizes_of(machine)), (kind, machine, T))
        self.assertEqual(answer, plain_turned_by(kind, machine, T, S), (kind, machine, T, S))
        self.assertEqual(turned_by(kind, answer, S, T), machine, (kind, machine, T, S))
        self.assertEqual(marks(kind, answer, 4), marks(kind, machine, 4), (kind, machine, T, S))
        return answer

    def test_there_and_back_and_the_same_marks(self):
        box = dice("turns")
        for kind, machine in machines_of("turned machines"):
            T, S = turn_by_dice(box, kind, len(machine[0]))
            self.check(kind, machine, T, S)

    def test_a_turned_machine_runs_alike_from_the_turned_standing(self):
        box = dice("turned runs")
        for kind in KINDS:
            machine = machine_by_dice(box, kind, 4, 2, 3)
            T, S = turn_by_dice(box, kind, 4)
            standing, inputs = row_by_dice(box, kind, 4), table_by_dice(box, kind, 5, 2)
            there = turned_by(kind, machine, T, S)
            self.assertEqual(run(kind, there, plain_image(kind, S, standing), inputs),
                             run(kind, machine, standing, inputs))

    def test_the_unit_changes_nothing(self):
        for kind in KINDS:
            machine = machine_by_dice(dice("unit turns"), kind, 3, 1, 2)
            self.assertEqual(turned_by(kind, machine, unit_table(kind, 3), unit_table(kind, 3)), machine)

    def test_known_ones(self):
        for kind in KINDS:
            machine = (table_of(kind, (1, 2), (3, 4)), table_of(kind, (5,), (6,)), table_of(kind, (7, 8)))
            # T puts the first number to the second, S takes it off again.
            T, S = table_of(kind, (1, 0), (1, 1)), table_of(kind, (1, 0), (-1, 1))
            wanted = (table_of(kind, (3, 2), (4, 2)), table_of(kind, (5,), (1,)), table_of(kind, (15, 8)))
            self.assertEqual(self.check(kind, machine, T, S), wanted)
        self.assertEqual(turned_by(0, ([[(1, 1)]], [[(1, 1)]], [[(1, 1)]]), [[(2, 1)]], [[(1, 2)]]),
                         ([[(1, 1)]], [[(1, 2)]], [[(2, 1)]]))

    def test_turns_of_long_numbers(self):
        box = dice("long turns")
        for n, figures in ((5, 20), (10, 3)):
            machine = machine_by_dice(box, 0, n, 3, 2, 6)
            T, S = turn_by_dice(box, 0, n, figures)
            self.check(0, machine, T, S)


if __name__ == "__main__":
    unittest.main()

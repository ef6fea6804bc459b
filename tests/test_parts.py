"""[14] Partings; [15] cores; [3] what a machine answers to inputs hangs on the part that is steered and seen."""

import unittest
from itertools import product as all_choices

from steermill.machines import marks, run, turned_by
from steermill.parts import core, parting
from steermill.seeing import unseen_room
from steermill.steering import steered_room
from tests.helper import (KINDS, all_sizes, chain_machine, columns_of, dice, is_machine, is_room_against, is_whole,
                          machine_by_dice, machines_of, nought_machine, noughts, plain_marks, plain_product,
                          plain_reduced, plain_steered, plain_turned_by, pulled_rows, rank, row_by_dice, rows_in_form,
                          sizes_of, table_by_dice, table_of, told, turn_by_dice, unit_table, wanted_sizes)


def stretches_of(sizes):
    """For each of the four stretches the places of its numbers."""
    ends = [sum(sizes[:k]) for k in range(5)]
    return [range(start, end) for start, end in zip(ends, ends[1:])]


def places_of_noughts(sizes):
    """The places where the tables of a parted machine have noughts: of A pairs, of B rows, of C columns."""
    one, two, three, four = (list(stretch) for stretch in stretches_of(sizes))
    in_a = [(two, one + three), (three + four, one + two), (four, three)]
    return [place for rows, columns in in_a for place in all_choices(rows, columns)], three + four, one + three


class PartCase(unittest.TestCase):
    def check_parting(self, kind, machine):
        n = len(machine[0])
        answer = parting(kind, machine)
        case = (kind, machine, answer)
        self.assertIs(type(answer), tuple, case)
        T, S, sizes = answer
        self.assertTrue(rows_in_form(kind, T, n) and len(T) == n, case)
        self.assertTrue(rows_in_form(kind, S, n) and len(S) == n, case)
        self.assertEqual(plain_product(kind, S, T), unit_table(kind, n), case)
        self.assertIs(type(sizes), tuple, case)
        self.assertTrue(all(is_whole(size) for size in sizes), case)
        self.assertEqual(sum(sizes), n, case)
        self.assertEqual(sizes, wanted_sizes(kind, machine), case)
        self.check_columns(kind, machine, columns_of(T), sizes, case)
        self.check_noughts(kind, plain_turned_by(kind, machine, T, S), sizes, case)
        return sizes

    def check_columns(self, kind, machine, columns, sizes, case):
        n = len(machine[0])
        one, two, three, four = ([columns[k] for k in stretch] for stretch in stretches_of(sizes))
        self.assertEqual(plain_reduced(kind, one + two), plain_steered(kind, machine), case)
        unseen = plain_reduced(kind, one + three)
        self.assertTrue(is_room_against(kind, unseen, pulled_rows(kind, machine, n), n), case)
        self.assertEqual(unseen, unseen_room(kind, machine), case)

    def check_noughts(self, kind, there, sizes, case):
        pairs, rows, columns = places_of_noughts(sizes)
        n, hands, sights = sizes_of(there)
        nought = told(kind, 0)
        for row, column in pairs:
            self.assertEqual(there[0][row][column], nought, case)
        for row in rows:
            self.assertEqual(there[1][row], noughts(kind, hands), case)
        for column in columns:
            self.assertEqual(columns_of(there[2])[column], noughts(kind, sights), case)

    def check_core(self, kind, machine):
        n, hands, sights = sizes_of(machine)
        answer = core(kind, machine)
        case = (kind, machine, answer)
        self.assertIs(type(answer), tuple, case)
        many = wanted_sizes(kind, machine)[1]
        wanted = plain_marks(kind, machine, 2 * n)
        nothing = all(x == told(kind, 0) for mark in wanted for row in mark for x in row)
        self.assertEqual(answer == ("none",), nothing, case)
        self.assertEqual(answer == ("none",), many == 0, case)
        if answer == ("none",):
            return None
        self.assertEqual((answer[0], len(answer)), ("core", 2), case)
        least = answer[1]
        self.assertTrue(is_machine(kind, least, many, hands, sights), case)
        self.assertEqual(plain_marks(kind, least, 2 * n), wanted, case)
        self.assertEqual(plain_steered(kind, least), unit_table(kind, many), case)
        self.assertEqual(rank(kind, pulled_rows(kind, least, many)), many, case)
        self.assertEqual(steered_room(kind, least), unit_table(kind, many), case)
        self.assertEqual(unseen_room(kind, least), [], case)
        return least


class Partings(PartCase):
    def test_drawn_ones_ones_of_noughts_and_ones_in_parts(self):
        found = [self.check_parting(kind, machine) for kind, machine in machines_of("partings")]
        for part in range(4):
            self.assertGreater(len([sizes for sizes in found if sizes[part] == 0]), 20)
            self.assertGreater(len([sizes for sizes in found if sizes[part] > 0]), 20)
        self.assertGreater(len([sizes for sizes in found if min(sizes) > 0]), 5)

    def test_each_of_the_four_sizes(self):
        box = dice("chains")
        for kind in KINDS:
            for sizes in all_sizes(5 if kind in (0, 2, 97) else 3):
                chain = chain_machine(kind, sizes)
                self.assertEqual(self.check_parting(kind, chain), sizes, kind)
                T, S = turn_by_dice(box, kind, sum(sizes))
                self.assertEqual(self.check_parting(kind, turned_by(kind, chain, T, S)), sizes, kind)

    def test_of_noughts(self):
        for kind in KINDS:
            for n, hands, sights in ((1, 1, 1), (2, 3, 1), (5, 2, 3)):
                self.assertEqual(self.check_parting(kind, nought_machine(kind, n, hands, sights)), (0, 0, n, 0))

    def test_steered_and_unseen_rooms_that_lie_askew(self):
        # Neither room has a unit row in it, nor has what lies in both.
        for kind in KINDS:
            A = unit_table(kind, 4)
            B = table_of(kind, (1, 0), (1, 1), (1, 1), (1, 0))
            C = table_of(kind, (1, -1, 0, 0), (0, 0, 1, -1))
            self.assertEqual(self.check_parting(kind, (A, B, C)), (1, 1, 1, 1))

    def test_a_turn_changes_no_size(self):
        box = dice("turned parts")
        for kind, machine in machines_of("sizes", (0, 3, 97)):
            T, S = turn_by_dice(box, kind, len(machine[0]))
            self.assertEqual(parting(kind, turned_by(kind, machine, T, S))[2], parting(kind, machine)[2])

    def test_long_numbers(self):
        box = dice("long parts")
        for sizes in ((1, 2, 1, 1), (1, 1, 2, 1), (0, 3, 0, 2), (2, 1, 2, 0)):
            machine = turned_by(0, chain_machine(0, sizes), *turn_by_dice(box, 0, 5, 20))
            self.assertEqual(self.check_parting(0, machine), sizes)
            T, S, found = parting(0, machine)
            self.assertEqual(parting(0, turned_by(0, machine, T, S))[2], sizes)
        self.assertEqual(self.check_parting(0, machine_by_dice(box, 0, 5, 1, 1, 6)), (0, 5, 0, 0))


class Cores(PartCase):
    def test_drawn_ones_ones_of_noughts_and_ones_in_parts(self):
        found = [self.check_core(kind, machine) for kind, machine in machines_of("cores")]
        sizes = [0 if least is None else len(least[0]) for least in found]
        for many in range(6):
            self.assertGreater(sizes.count(many), 5, many)

    def test_each_of_the_four_sizes(self):
        box = dice("core chains")
        for kind in KINDS:
            for sizes in all_sizes(5 if kind in (0, 2, 97) else 3):
                chain = chain_machine(kind, sizes)
                machine = turned_by(kind, chain, *turn_by_dice(box, kind, sum(sizes)))
                for one in (chain, machine):
                    least = self.check_core(kind, one)
                    self.assertEqual(0 if least is None else len(least[0]), sizes[1], (kind, sizes))

    def test_none_where_all_marks_are_noughts(self):
        for kind in KINDS:
            for n, hands, sights in ((1, 1, 1), (3, 1, 2), (5, 3, 3)):
                self.assertEqual(core(kind, nought_machine(kind, n, hands, sights)), ("none",))
            # Steered and seen, but never the one by the other.
            apart = (table_of(kind, (1, 0), (0, 1)), table_of(kind, (1,), (0,)), table_of(kind, (0, 1)))
            self.assertEqual(core(kind, apart), ("none",))
            late = (table_of(kind, (0, 0), (1, 0)), table_of(kind, (1,), (0,)), table_of(kind, (0, 1)))
            self.assertEqual(len(self.check_core(kind, late)[0]), 2)

    def test_a_machine_that_is_all_core_keeps_its_size(self):
        box = dice("all core")
        for kind in KINDS:
            for n in range(1, 6):
                machine = turned_by(kind, chain_machine(kind, (0, n, 0, 0)), *turn_by_dice(box, kind, n))
                self.assertEqual(len(self.check_core(kind, machine)[0]), n)

    def test_the_core_of_a_core_has_its_size(self):
        for kind, machine in machines_of("cores of cores", (0, 2, 31)):
            least = core(kind, machine)
            if least[0] == "core":
                again = self.check_core(kind, least[1])
                self.assertEqual(len(again[0]), len(least[1][0]))

    def test_from_nought_the_core_runs_as_the_machine(self):
        box = dice("core runs")
        for kind, machine in machines_of("answers to inputs"):
            n, hands, sights = sizes_of(machine)
            inputs = [row_by_dice(box, kind, hands) for _ in range(n + 2)]
            seen = run(kind, machine, noughts(kind, n), inputs)
            least = core(kind, machine)
            if least[0] == "none":
                self.assertEqual(seen, [noughts(kind, sights)] * (n + 3))
            else:
                self.assertEqual(run(kind, least[1], noughts(kind, len(least[1][0])), inputs), seen, (kind, machine))

    def test_long_numbers(self):
        box = dice("long cores")
        for sizes in ((1, 2, 1, 1), (0, 3, 0, 2), (2, 0, 1, 2), (0, 4, 1, 0)):
            least = self.check_core(0, turned_by(0, chain_machine(0, sizes), *turn_by_dice(box, 0, 5, 20)))
            if least is not None:
                self.assertEqual(marks(0, least, 12), plain_marks(0, chain_machine(0, sizes), 12))
        machine = (table_by_dice(box, 0, 5, 5, 6), table_by_dice(box, 0, 5, 3, 6), table_by_dice(box, 0, 3, 5, 6))
        self.assertEqual(len(self.check_core(0, machine)[0]), 5)


if __name__ == "__main__":
    unittest.main()

"""[21] Joined machines: side by side, one behind the other, and in a ring."""

import unittest
from itertools import product as all_choices

from steermill.joins import behind, beside, ring
from steermill.least import compared
from steermill.machines import marks, next_of, run, seen_of
from steermill.parts import core
from steermill.polys import great
from steermill.seeing import unseen_room
from steermill.steering import steered_room
from tests.helper import (KINDS, chain_machine, dice, in_corners, is_machine, is_room_against, machine_by_dice,
                          nought_machine, noughts, plain_great, plain_image, plain_less, plain_marks, plain_next,
                          plain_product, plain_steered, plain_sum, plain_table_sum, plain_turned_by, poly_product,
                          pulled_rows, row_by_dice, sizes_of, table_of, turn_by_dice, whole_by_dice)

COUNTS = (1, 2, 3, 4, 5)
FEW = (1, 2, 3)


def pairs_beside(name, kinds=KINDS):
    """Machines of each two counts of numbers, with as many hands and as many sights."""
    box = dice(name)
    for kind in kinds:
        for first, second in all_choices(COUNTS, COUNTS):
            hands, sights = box.choice(FEW), box.choice(FEW)
            one, other = (machine_by_dice(box, kind, n, hands, sights) for n in (first, second))
            yield kind, one, other


def pairs_behind(name, kinds=KINDS):
    """Machines of each counts of hands and sights, where the second has as many hands as the first has sights."""
    box = dice(name)
    for kind in kinds:
        for hands, between, sights in all_choices(FEW, FEW, FEW):
            yield (kind, machine_by_dice(box, kind, box.choice(COUNTS), hands, between),
                   machine_by_dice(box, kind, box.choice(COUNTS), between, sights))


def machines_for_ring(name, kinds=KINDS):
    box = dice(name)
    for kind in kinds:
        for n, hands in all_choices(COUNTS, FEW):
            yield kind, machine_by_dice(box, kind, n, hands, hands)


def sum_of_tables(kind, tables, rows, columns):
    told_sum = [noughts(kind, columns) for _ in range(rows)]
    for table in tables:
        told_sum = plain_table_sum(kind, told_sum, table)
    return told_sum


class Beside(unittest.TestCase):
    def test_sizes(self):
        for kind, one, other in pairs_beside("beside sizes"):
            n, hands, sights = sizes_of(one)
            self.assertTrue(is_machine(kind, beside(kind, one, other), n + len(other[0]), hands, sights), (kind, one))

    def test_turns_against_those_of_both(self):
        box = dice("beside turns")
        for kind, one, other in pairs_beside("beside"):
            both = beside(kind, one, other)
            x, y = row_by_dice(box, kind, len(one[0])), row_by_dice(box, kind, len(other[0]))
            for _ in range(3):
                put_in = row_by_dice(box, kind, len(one[1][0]))
                seen = plain_sum(kind, plain_image(kind, one[2], x), plain_image(kind, other[2], y))
                self.assertEqual(seen_of(kind, both, x + y), seen, (kind, one, other))
                standing = x + y
                x, y = plain_next(kind, one, x, put_in), plain_next(kind, other, y, put_in)
                self.assertEqual(next_of(kind, both, standing, put_in), x + y, (kind, one, other))

    def test_marks_are_the_sums_of_both(self):
        for kind, one, other in pairs_beside("beside marks"):
            sums = [plain_table_sum(kind, left, right) for left, right in
                    zip(plain_marks(kind, one, 6), plain_marks(kind, other, 6))]
            self.assertEqual(marks(kind, beside(kind, one, other), 6), sums, (kind, one, other))

    def test_known_ones(self):
        for kind in KINDS:
            one = (table_of(kind, (2,)), table_of(kind, (3, 1)), table_of(kind, (1,)))
            other = (table_of(kind, (0, 1), (1, 0)), table_of(kind, (1, 0), (1, 1)), table_of(kind, (4, 5)))
            self.assertEqual(beside(kind, one, other),
                             (table_of(kind, (2, 0, 0), (0, 0, 1), (0, 1, 0)), table_of(kind, (3, 1), (1, 0), (1, 1)),
                              table_of(kind, (1, 4, 5))))

    def test_with_its_negative_all_marks_are_noughts(self):
        box = dice("negatives")
        for kind in KINDS:
            for n, hands, sights in all_choices((1, 2), FEW, FEW):
                A, B, C = machine_by_dice(box, kind, n, hands, sights)
                negative = (A, B, [plain_less(kind, noughts(kind, n), row) for row in C])
                both = beside(kind, (A, B, C), negative)
                self.assertEqual(core(kind, both), ("none",))
                self.assertEqual(compared(kind, both, nought_machine(kind, 1, hands, sights)), ("alike",))


class Behind(unittest.TestCase):
    def test_sizes(self):
        for kind, one, other in pairs_behind("behind sizes"):
            n, hands, sights = len(one[0]) + len(other[0]), len(one[1][0]), len(other[2])
            self.assertTrue(is_machine(kind, behind(kind, one, other), n, hands, sights), (kind, one, other))

    def test_turns_against_those_of_both(self):
        box = dice("behind turns")
        for kind, one, other in pairs_behind("behind"):
            both = behind(kind, one, other)
            x, y = row_by_dice(box, kind, len(one[0])), row_by_dice(box, kind, len(other[0]))
            for _ in range(3):
                put_in = row_by_dice(box, kind, len(one[1][0]))
                self.assertEqual(seen_of(kind, both, x + y), plain_image(kind, other[2], y), (kind, one, other))
                standing = x + y
                # What is seen of the first ahead of the turn, not behind it.
                y = plain_next(kind, other, y, plain_image(kind, one[2], x))
                x = plain_next(kind, one, x, put_in)
                self.assertEqual(next_of(kind, both, standing, put_in), x + y, (kind, one, other))

    def test_marks_are_sums_of_products(self):
        for kind, one, other in pairs_behind("behind marks"):
            first, second = plain_marks(kind, one, 6), plain_marks(kind, other, 6)
            sights, hands = len(other[2]), len(one[1][0])
            sums = [sum_of_tables(kind, [plain_product(kind, second[i], first[k - 1 - i]) for i in range(k)],
                                  sights, hands) for k in range(6)]
            self.assertEqual(marks(kind, behind(kind, one, other), 6), sums, (kind, one, other))

    def test_known_ones(self):
        for kind in KINDS:
            one = (table_of(kind, (2,)), table_of(kind, (3, 1, 4)), table_of(kind, (1,), (5,)))
            other = (table_of(kind, (0, 1), (1, 0)), table_of(kind, (1, 0), (1, 1)), table_of(kind, (4, 5)))
            self.assertEqual(behind(kind, one, other),
                             (table_of(kind, (2, 0, 0), (1, 0, 1), (6, 1, 0)),
                              table_of(kind, (3, 1, 4), (0, 0, 0), (0, 0, 0)), table_of(kind, (0, 4, 5))))

    def test_the_first_is_the_one_that_inputs_go_to(self):
        for kind in KINDS:
            A, B, C = chain_machine(kind, (0, 2, 0, 0))
            doubling = (table_of(kind, (0,)), table_of(kind, (2,)), table_of(kind, (1,), (3,)))
            both = behind(kind, (A, B, C[:1]), doubling)
            seen = run(kind, both, noughts(kind, 3), table_of(kind, (1,), (0,), (0,), (0,)))
            self.assertEqual(seen, table_of(kind, (0, 0), (0, 0), (0, 0), (2, 6), (0, 0)))


class Ring(unittest.TestCase):
    def test_sizes(self):
        for kind, machine in machines_for_ring("ring sizes"):
            self.assertTrue(is_machine(kind, ring(kind, machine), *sizes_of(machine)), (kind, machine))

    def test_turns_against_those_of_the_machine(self):
        box = dice("ring turns")
        for kind, machine in machines_for_ring("ring"):
            closed = ring(kind, machine)
            n, hands, sights = sizes_of(machine)
            x = row_by_dice(box, kind, n)
            for _ in range(3):
                put_in = row_by_dice(box, kind, hands)
                seen = plain_image(kind, machine[2], x)
                self.assertEqual(seen_of(kind, closed, x), seen, (kind, machine))
                standing, x = x, plain_next(kind, machine, x, plain_sum(kind, put_in, seen))
                self.assertEqual(next_of(kind, closed, standing, put_in), x, (kind, machine))

    def test_marks_follow_from_the_ones_ahead(self):
        for kind, machine in machines_for_ring("ring marks"):
            hands = len(machine[1][0])
            own, closed = plain_marks(kind, machine, 6), marks(kind, ring(kind, machine), 6)
            for k in range(6):
                products = [plain_product(kind, own[i], closed[k - 1 - i]) for i in range(k)]
                self.assertEqual(closed[k], sum_of_tables(kind, [own[k]] + products, hands, hands), (kind, machine, k))

    def test_known_ones(self):
        for kind in KINDS:
            machine = (table_of(kind, (2, 0), (1, 1)), table_of(kind, (3,), (1,)), table_of(kind, (1, 4)))
            self.assertEqual(ring(kind, machine), (table_of(kind, (5, 12), (2, 5)), machine[1], machine[2]))
            still = nought_machine(kind, 3, 2, 2)
            self.assertEqual(ring(kind, still), still)


class GreaterOnes(unittest.TestCase):
    """Joined machines of up to ten numbers, and ones with long figures."""

    def test_what_is_asked_of_ten_numbers(self):
        box = dice("ten numbers")
        for kind in (0, 2, 97):
            chains = [chain_machine(kind, sizes) for sizes in ((1, 2, 1, 1), (0, 3, 0, 2))]
            drawn = [machine_by_dice(box, kind, 5, 2, 2) for _ in range(2)]
            for join, (one, other) in ((beside, chains), (beside, drawn), (behind, drawn)):
                both = join(kind, one, other)
                self.assertEqual(len(both[0]), 10)
                self.assertEqual(steered_room(kind, both), plain_steered(kind, both))
                self.assertTrue(is_room_against(kind, unseen_room(kind, both), pulled_rows(kind, both, 10), 10))
                self.assertEqual(great(kind, both[0]),
                                 poly_product(kind, plain_great(kind, one[0]), plain_great(kind, other[0])))
                self.assertEqual(marks(kind, both, 12), plain_marks(kind, both, 12))

    def test_compared_the_other_way_round(self):
        box = dice("other way round")
        for kind in KINDS:
            for n, hands, sights in ((2, 1, 1), (3, 2, 1), (4, 1, 2), (5, 2, 2)):
                one, other = (whole_by_dice(box, kind, n, hands, sights) for _ in range(2))
                there, back = beside(kind, one, other), beside(kind, other, one)
                found = compared(kind, there, back)
                self.assertNotEqual(found[0], "apart")
                if found[0] == "turn":
                    self.assertEqual(plain_turned_by(kind, there, found[1], found[2]), back)
                # A machine beside itself is steered in half of its numbers alone.
                doubled = (one[0], one[1], [plain_sum(kind, row, row) for row in one[2]])
                self.assertEqual(compared(kind, beside(kind, one, one), doubled), ("alike",))

    def test_a_ring_that_hands_on_nothing(self):
        box = dice("rings")
        for kind in KINDS:
            A, B, C = machine_by_dice(box, kind, 3, 2, 2)
            blind = (A, B, [noughts(kind, 3)] * 2)
            self.assertEqual(ring(kind, blind), blind)
            self.assertEqual(ring(kind, (A, [noughts(kind, 2)] * 3, C)), (A, [noughts(kind, 2)] * 3, C))

    def test_long_numbers(self):
        box = dice("long joins")
        for kind in (0, 2, 97):
            one, other = (plain_turned_by(kind, machine_by_dice(box, kind, 3, 2, 2, 6), *turn_by_dice(box, kind, 3, 20))
                          for _ in range(2))
            both, row, closed = beside(kind, one, other), behind(kind, one, other), ring(kind, one)
            x, y, u = row_by_dice(box, kind, 3, 60), row_by_dice(box, kind, 3, 60), row_by_dice(box, kind, 2, 60)
            seen = plain_image(kind, one[2], x)
            self.assertEqual(next_of(kind, both, x + y, u), plain_next(kind, one, x, u) + plain_next(kind, other, y, u))
            self.assertEqual(next_of(kind, row, x + y, u),
                             plain_next(kind, one, x, u) + plain_next(kind, other, y, seen))
            self.assertEqual(next_of(kind, closed, x, u), plain_next(kind, one, x, plain_sum(kind, u, seen)))
            self.assertEqual(both[0], in_corners(kind, one[0], other[0]))


if __name__ == "__main__":
    unittest.main()

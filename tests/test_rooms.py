"""[6] Rooms: sums of both, what lies in both, the room against a room, whether a row lies in a room."""

import unittest
from itertools import product as all_choices

from steermill.rooms import against, joined, lies_in, met
from steermill.tables import reduced
from tests.helper import (KINDS, SMALL_PRIMES, all_of_room, by_dice, combined, dice, dot, is_reduced, noughts, rank,
                          row_of, rows_in_form, table_by_dice, table_of, told, unit_table)

WIDTHS = (1, 2, 3, 5)


def rooms_of(box, kind, n):
    """The room of no rows, the whole one, and some between."""
    between = [reduced(kind, table_by_dice(box, kind, count, n)) for count in range(1, n)]
    return [[], unit_table(kind, n)] + between


def pairs_of_rooms():
    box = dice("rooms")
    for kind in KINDS:
        for n in WIDTHS:
            for one in rooms_of(box, kind, n):
                for other in rooms_of(box, kind, n) + [[list(row) for row in one]]:
                    yield kind, n, one, other


def rows_in(kind, room, rows):
    return all(rank(kind, room + [row]) == len(room) for row in rows)


class RoomCase(unittest.TestCase):
    def check_room(self, kind, n, room):
        self.assertTrue(rows_in_form(kind, room, n), (kind, room))
        self.assertTrue(is_reduced(kind, room), (kind, room))


class SumsOfBoth(RoomCase):
    def test_is_the_least_room_with_both(self):
        for kind, n, one, other in pairs_of_rooms():
            answer = joined(kind, one, other)
            self.check_room(kind, n, answer)
            self.assertTrue(rows_in(kind, answer, one + other), (kind, one, other))
            self.assertEqual(len(answer), rank(kind, one + other), (kind, one, other))

    def test_with_no_rows_and_with_the_whole_room(self):
        self.assertEqual(joined(0, [], []), [])
        for kind in KINDS:
            room = table_of(kind, (1, 0, 4), (0, 1, -1))
            self.assertEqual(joined(kind, room, []), room)
            self.assertEqual(joined(kind, [], room), room)
            self.assertEqual(joined(kind, room, unit_table(kind, 3)), unit_table(kind, 3))

    def test_a_known_one(self):
        for kind in KINDS:
            one, other = table_of(kind, (1, 1, 0)), table_of(kind, (0, 1, 1))
            self.assertEqual(joined(kind, one, other), table_of(kind, (1, 0, -1), (0, 1, 1)))


class InBoth(RoomCase):
    def test_is_the_greatest_room_in_both(self):
        for kind, n, one, other in pairs_of_rooms():
            answer = met(kind, n, one, other)
            self.check_room(kind, n, answer)
            self.assertTrue(rows_in(kind, one, answer) and rows_in(kind, other, answer), (kind, one, other))
            many = len(one) + len(other) - rank(kind, one + other)
            self.assertEqual(len(answer), many, (kind, one, other))

    def test_with_no_rows_and_with_the_whole_room(self):
        for kind in KINDS:
            room = table_of(kind, (1, 0, 4), (0, 1, -1))
            self.assertEqual(met(kind, 3, room, []), [])
            self.assertEqual(met(kind, 3, [], room), [])
            self.assertEqual(met(kind, 3, room, unit_table(kind, 3)), room)
            self.assertEqual(met(kind, 3, room, room), room)

    def test_a_known_one(self):
        for kind in KINDS:
            one = table_of(kind, (1, 0, 0), (0, 1, 1))
            other = table_of(kind, (1, 0, 1), (0, 1, 0))
            self.assertEqual(met(kind, 3, one, other), table_of(kind, (1, 1, 1)))


class AgainstARoom(RoomCase):
    def test_each_goes_against_each_and_none_is_missing(self):
        box = dice("against")
        for kind in KINDS:
            for n in WIDTHS:
                for room in rooms_of(box, kind, n):
                    answer = against(kind, n, room)
                    self.check_room(kind, n, answer)
                    self.assertEqual(len(answer), n - len(room), (kind, room))
                    for row in answer:
                        for other in room:
                            self.assertEqual(dot(kind, row, other), told(kind, 0), (kind, room))
                    self.assertEqual(against(kind, n, answer), room)

    def test_of_no_rows_and_of_the_whole_room(self):
        for kind in KINDS:
            for n in (1, 4, 12):
                self.assertEqual(against(kind, n, []), unit_table(kind, n))
                self.assertEqual(against(kind, n, unit_table(kind, n)), [])

    def test_known_ones(self):
        self.assertEqual(against(0, 2, table_of(0, (1, 2))), [[(1, 1), (-1, 2)]])
        self.assertEqual(against(2, 2, [[1, 1]]), [[1, 1]])
        self.assertEqual(against(97, 3, [[1, 0, 5], [0, 1, 0]]), [[1, 0, 58]])


class LiesInARoom(RoomCase):
    def test_sums_of_multiples_lie_in_it(self):
        box = dice("within")
        for kind in KINDS:
            for n in WIDTHS:
                for room in rooms_of(box, kind, n):
                    row = combined(kind, [by_dice(box, kind) for _ in room], room, n)
                    self.assertIs(lies_in(kind, room, row), True, (kind, room, row))

    def test_any_row_is_told_rightly(self):
        box = dice("any row")
        for kind in KINDS:
            for n in WIDTHS:
                for room in rooms_of(box, kind, n):
                    row = [by_dice(box, kind) for _ in range(n)]
                    self.assertIs(lies_in(kind, room, row), rank(kind, room + [row]) == len(room), (kind, room, row))

    def test_noughts_lie_in_each(self):
        box = dice("noughts")
        for kind in KINDS:
            for n in WIDTHS:
                for room in rooms_of(box, kind, n):
                    self.assertIs(lies_in(kind, room, noughts(kind, n)), True, (kind, room))

    def test_nothing_else_lies_in_the_room_of_no_rows(self):
        for kind in KINDS:
            self.assertIs(lies_in(kind, [], row_of(kind, 0, 1)), False)
            self.assertIs(lies_in(kind, table_of(kind, (1, 1)), row_of(kind, 1, 0)), False)
            self.assertIs(lies_in(kind, table_of(kind, (1, 1)), row_of(kind, -1, -1)), True)


class EveryRow(RoomCase):
    """By small primes all rows can be gone through one by one."""

    def rooms(self, prime, n):
        box = dice("every row")
        return rooms_of(box, prime, n) + rooms_of(box, prime, n)[2:]

    def test_both_and_sums_and_whether_one_lies_in(self):
        for prime in SMALL_PRIMES:
            for one in self.rooms(prime, 3):
                inside = all_of_room(prime, one, 3)
                for row in all_choices(range(prime), repeat=3):
                    self.assertIs(lies_in(prime, one, list(row)), row in inside, (prime, one, row))
                for other in self.rooms(prime, 3):
                    both = inside & all_of_room(prime, other, 3)
                    self.assertEqual(all_of_room(prime, met(prime, 3, one, other), 3), both)
                    sums = {tuple((x + y) % prime for x, y in zip(left, right))
                            for left in inside for right in all_of_room(prime, other, 3)}
                    self.assertEqual(all_of_room(prime, joined(prime, one, other), 3), sums)

    def test_against(self):
        for prime in SMALL_PRIMES:
            for room in self.rooms(prime, 3):
                wanted = {row for row in all_choices(range(prime), repeat=3)
                          if all(dot(prime, row, other) == 0 for other in room)}
                self.assertEqual(all_of_room(prime, against(prime, 3, room), 3), wanted)


class LongNumbers(RoomCase):
    def test_rooms_told_of_rows_of_twenty_figures(self):
        box = dice("long rooms")
        for kind in (0, 97):
            one = reduced(kind, table_by_dice(box, kind, 5, 12, 20))
            other = reduced(kind, table_by_dice(box, kind, 8, 12, 20))
            both = met(kind, 12, one, other)
            self.check_room(kind, 12, both)
            self.assertEqual(len(both), 5 + 8 - len(joined(kind, one, other)))
            for row in both:
                self.assertTrue(lies_in(kind, one, row) and lies_in(kind, other, row))
            self.assertEqual(against(kind, 12, against(kind, 12, one)), one)


if __name__ == "__main__":
    unittest.main()

"""[12] The unseen room, and what is told apart; [13] standings read off what was seen; [3] what is never seen."""

import unittest
from itertools import product as all_choices

from steermill.machines import run, turned_by
from steermill.seeing import standings, told_apart, unseen_room
from tests.helper import (KINDS, all_of_room, all_sizes, by_dice, chain_machine, combined, dice, dot, is_room_against,
                          machine_by_dice, machines_of, nought_machine, noughts, plain_image, plain_reduced, plain_run,
                          plain_sum, pulled_rows, rank, resting, row_by_dice, row_of, rows_in_form, sizes_of,
                          small_machines, table_by_dice, table_of, told, turn_by_dice, unit_table)


def standings_of(prime, n):
    return [list(standing) for standing in all_choices(range(prime), repeat=n)]


class UnseenRoom(unittest.TestCase):
    def check(self, kind, machine):
        answer = unseen_room(kind, machine)
        n, hands, sights = sizes_of(machine)
        self.assertTrue(is_room_against(kind, answer, pulled_rows(kind, machine, n), n), (kind, machine, answer))
        for row in answer:
            self.assertEqual(plain_image(kind, machine[2], row), noughts(kind, sights), (kind, machine))
            self.assertEqual(rank(kind, answer + [plain_image(kind, machine[0], row)]), len(answer), (kind, machine))
        return answer

    def test_nought_is_seen_of_it_and_it_is_kept_and_none_is_greater(self):
        sizes = set()
        for kind, machine in machines_of("unseen rooms"):
            sizes.add((len(machine[0]), len(self.check(kind, machine))))
        self.assertEqual(sizes, {(n, many) for n in range(1, 6) for many in range(n + 1)})

    def test_c_of_noughts_sees_nothing(self):
        box = dice("no sights")
        for kind in KINDS:
            for n in range(1, 6):
                machine = machine_by_dice(box, kind, n, 1, 2)
                self.assertEqual(unseen_room(kind, (machine[0], machine[1], [noughts(kind, n)] * 2)),
                                 unit_table(kind, n))

    def test_chains_are_seen_as_far_as_the_sights_reach(self):
        for kind in KINDS:
            for a, b, c, d in all_sizes(5):
                n = a + b + c + d
                wanted = unit_table(kind, n)[b:a + b] + unit_table(kind, n)[a + b + d:]
                self.assertEqual(unseen_room(kind, chain_machine(kind, (a, b, c, d))), wanted, (kind, a, b, c, d))

    def test_known_ones(self):
        for kind in KINDS:
            B = table_of(kind, (1,), (0,), (0,))
            ring = table_of(kind, (0, 0, 1), (1, 0, 0), (0, 1, 0))
            self.assertEqual(unseen_room(kind, (ring, B, table_of(kind, (1, 1, 1)))),
                             table_of(kind, (1, 0, -1), (0, 1, -1)))
            self.assertEqual(unseen_room(kind, (ring, B, table_of(kind, (0, 1, 0)))), [])
            self.assertEqual(unseen_room(kind, (unit_table(kind, 3), B, table_of(kind, (0, 1, 1), (1, 0, 0)))),
                             table_of(kind, (0, 1, -1)))
        self.assertEqual(unseen_room(0, ([[(1, 2), (0, 1)], [(0, 1), (1, 2)]], [[(0, 1)]] * 2, [[(2, 3), (1, 2)]])),
                         [[(1, 1), (-4, 3)]])

    def test_the_room_of_a_turned_machine_is_the_turned_room(self):
        box = dice("turned unseen")
        for kind in KINDS:
            for sizes in ((1, 2, 1, 1), (2, 3, 0, 0), (0, 1, 2, 0)):
                machine = chain_machine(kind, sizes)
                T, S = turn_by_dice(box, kind, sum(sizes))
                rows = [plain_image(kind, S, row) for row in unseen_room(kind, machine)]
                self.assertEqual(unseen_room(kind, turned_by(kind, machine, T, S)), plain_reduced(kind, rows))

    def test_just_what_is_never_seen(self):
        for prime, n, sights in ((2, 3, 1), (2, 4, 1), (3, 2, 1), (3, 3, 2), (5, 2, 1)):
            for machine in small_machines(prime, n, 1, sights, 8):
                never = [tuple(x) for x in standings_of(prime, n)
                         if plain_run(prime, machine, x, resting(prime, machine, n + 3)) == [[0] * sights] * (n + 4)]
                self.assertEqual(all_of_room(prime, unseen_room(prime, machine), n), set(never), machine)

    def test_long_numbers_and_ten_numbers(self):
        box = dice("great unseen")
        for kind in (0, 97):
            self.check(kind, machine_by_dice(box, kind, 5, 1, 1, 6))
            there = turned_by(kind, chain_machine(kind, (1, 2, 1, 1)), *turn_by_dice(box, kind, 5, 20))
            self.assertEqual(len(self.check(kind, there)), 2)
            self.check(kind, machine_by_dice(box, kind, 10, 1, 2, 2))
            rows = unit_table(kind, 10)
            self.assertEqual(unseen_room(kind, chain_machine(kind, (3, 4, 2, 1))), rows[4:7] + rows[8:])


class ToldApart(unittest.TestCase):
    def check(self, kind, machine, one, other):
        """Holds what is told against runs with the same inputs, and tells behind how many turns, or None."""
        n, hands, sights = sizes_of(machine)
        box = dice("same inputs")
        answer = told_apart(kind, machine, one, other)
        case = (kind, machine, one, other, answer)
        self.assertIs(type(answer), tuple, case)
        for inputs in (resting(kind, machine, n + 2), [row_by_dice(box, kind, hands) for _ in range(n + 2)]):
            pairs = zip(plain_run(kind, machine, one, inputs), plain_run(kind, machine, other, inputs))
            unlike = [k for k, (left, right) in enumerate(pairs) if left != right]
            self.assertEqual(answer, ("apart", unlike[0]) if unlike else ("alike",), case)
        if answer == ("alike",):
            return None
        self.assertIs(type(answer[1]), int, case)
        self.assertLess(answer[1], n, case)
        return answer[1]

    def test_drawn_standings(self):
        box = dice("pairs")
        found = set()
        for kind, machine in machines_of("apart"):
            n = len(machine[0])
            one = row_by_dice(box, kind, n)
            found.add(self.check(kind, machine, one, row_by_dice(box, kind, n)))
            once = noughts(kind, n)
            once[box.randrange(n)] = told(kind, 1)
            found.add(self.check(kind, machine, one, plain_sum(kind, one, once)))
        self.assertLessEqual({None, 0, 1, 2}, found)

    def test_alike_just_where_they_differ_by_one_of_the_unseen_room(self):
        box = dice("alike pairs")
        for kind, machine in machines_of("alike"):
            n = len(machine[0])
            room = unseen_room(kind, machine)
            one = row_by_dice(box, kind, n)
            self.assertEqual(told_apart(kind, machine, one, list(one)), ("alike",))
            moved = plain_sum(kind, one, combined(kind, [by_dice(box, kind) for _ in room], room, n))
            self.assertIsNone(self.check(kind, machine, one, moved))
            for row in unit_table(kind, n):
                apart = self.check(kind, machine, one, plain_sum(kind, one, row)) is not None
                self.assertEqual(apart, rank(kind, room + [row]) > len(room), (kind, machine, row))

    def test_behind_each_count_of_turns(self):
        box = dice("behind turns")
        for kind in KINDS:
            for n in range(1, 6):
                chain = chain_machine(kind, (0, n, 0, 0))
                T, S = turn_by_dice(box, kind, n)
                for k in range(n):
                    one = row_by_dice(box, kind, n)
                    # Of the chain only the last number is seen, and each turn hands numbers on by one place.
                    other = plain_sum(kind, one, unit_table(kind, n)[n - 1 - k])
                    self.assertEqual(told_apart(kind, chain, one, other), ("apart", k))
                    self.assertEqual(told_apart(kind, turned_by(kind, chain, T, S), plain_image(kind, S, one),
                                                plain_image(kind, S, other)), ("apart", k))

    def test_known_ones(self):
        for kind in KINDS:
            machine = (table_of(kind, (0, 1, 0), (0, 0, 0), (0, 0, 1)), table_of(kind, (1,), (1,), (1,)),
                       table_of(kind, (1, 0, 0), (1, 0, 0)))
            nought = noughts(kind, 3)
            self.assertEqual(told_apart(kind, machine, row_of(kind, 1, 1, 0), nought), ("apart", 0))
            self.assertEqual(told_apart(kind, machine, nought, row_of(kind, 0, 1, 1)), ("apart", 1))
            self.assertEqual(told_apart(kind, machine, row_of(kind, 1, 1, 1), row_of(kind, 1, 1, 0)), ("alike",))

    def test_each_pair_one_by_one(self):
        for prime, n in ((2, 3), (3, 2)):
            for machine in small_machines(prime, n, 1, 1, 6):
                for one in standings_of(prime, n):
                    for other in standings_of(prime, n):
                        self.check(prime, machine, one, other)

    def test_long_numbers(self):
        box = dice("long pairs")
        for kind in (0, 97):
            for machine in (machine_by_dice(box, kind, 5, 1, 1, 6),
                            turned_by(kind, chain_machine(kind, (1, 2, 1, 1)), *turn_by_dice(box, kind, 5, 20))):
                one = row_by_dice(box, kind, 5, 60)
                self.check(kind, machine, one, row_by_dice(box, kind, 5, 60))
                room = unseen_room(kind, machine)
                moved = plain_sum(kind, one, combined(kind, [by_dice(box, kind) for _ in room], room, 5))
                self.assertIsNone(self.check(kind, machine, one, moved))


class Standings(unittest.TestCase):
    def check(self, kind, machine, answers):
        """Holds what is told against the machine, and tells which it was."""
        case = (kind, machine, answers)
        n = len(machine[0])
        rows = pulled_rows(kind, machine, len(answers))
        seen = [x for answer in answers for x in answer]
        can_be = rank(kind, rows) == rank(kind, [row + [x] for row, x in zip(rows, seen, strict=True)])
        answer = standings(kind, machine, answers)
        self.assertIs(type(answer), tuple, case)
        if not can_be:
            self.assertEqual(answer, ("never",), case)
            return "never"
        self.assertEqual(len(answer), 3, case)
        self.assertEqual(answer[0], "standing", case)
        self.assertTrue(rows_in_form(kind, [answer[1]], n), case)
        self.assertEqual(plain_run(kind, machine, answer[1], resting(kind, machine, len(answers) - 1)), answers, case)
        self.assertTrue(is_room_against(kind, answer[2], rows, n), case)
        return "standing"

    def test_what_was_seen_of_a_standing(self):
        box = dice("seen runs")
        for kind, machine in machines_of("read"):
            n = len(machine[0])
            start = row_by_dice(box, kind, n)
            seen = plain_run(kind, machine, start, resting(kind, machine, n + 2))
            for many in (1, 2, n, n + 1, n + 3):
                self.assertEqual(self.check(kind, machine, seen[:many]), "standing")

    def test_whatever_was_seen(self):
        box = dice("any answers")
        words = []
        for kind, machine in machines_of("any"):
            n, hands, sights = sizes_of(machine)
            for many in (1, 2, n + 1):
                answers = [row_by_dice(box, kind, sights) for _ in range(many)]
                words.append((many > 1, self.check(kind, machine, answers)))
        for word in ((False, "standing"), (False, "never"), (True, "standing"), (True, "never")):
            self.assertGreater(words.count(word), 5, word)

    def test_one_answer_that_is_off(self):
        box = dice("off")
        for kind, machine in machines_of("off by one"):
            n, hands, sights = sizes_of(machine)
            start = row_by_dice(box, kind, n)
            seen = plain_run(kind, machine, start, resting(kind, machine, n + 3))
            for place in (0, n - 1, n, n + 3):
                answers = [list(row) for row in seen]
                answers[place] = plain_sum(kind, answers[place], unit_table(kind, sights)[box.randrange(sights)])
                word = self.check(kind, machine, answers)
                if place >= n:
                    # The answers ahead of it leave no other one open.
                    self.assertEqual(word, "never")

    def test_of_noughts(self):
        for kind in KINDS:
            for n, hands, sights in ((1, 1, 1), (3, 1, 2), (5, 3, 3)):
                machine = nought_machine(kind, n, hands, sights)
                for many in (1, 2, 7):
                    nothing = [noughts(kind, sights) for _ in range(many)]
                    answer = standings(kind, machine, nothing)
                    self.assertEqual((answer[0], answer[2]), ("standing", unit_table(kind, n)))
                    nothing[-1][-1] = told(kind, 1)
                    self.assertEqual(standings(kind, machine, nothing), ("never",))

    def test_the_room_grows_smaller_down_to_the_unseen_one(self):
        for kind in KINDS:
            for sizes in ((0, 5, 0, 0), (1, 3, 0, 0), (2, 1, 1, 1)):
                machine = chain_machine(kind, sizes)
                n = sum(sizes)
                seen = plain_run(kind, machine, row_of(kind, *range(1, n + 1)), resting(kind, machine, n + 1))
                rooms = [standings(kind, machine, seen[:many])[2] for many in range(1, n + 3)]
                wanted = [n - min(many, sizes[1]) - min(many, sizes[3]) for many in range(1, n + 3)]
                self.assertEqual([len(room) for room in rooms], wanted)
                self.assertEqual(rooms[n - 1:], [unseen_room(kind, machine)] * 3)

    def test_known_ones(self):
        for kind in KINDS:
            machine = (table_of(kind, (0, 1), (1, 0)), table_of(kind, (1,), (0,)), table_of(kind, (1, 0)))
            self.assertEqual(standings(kind, machine, table_of(kind, (3,), (5,))), ("standing", row_of(kind, 3, 5), []))
            self.assertEqual(standings(kind, machine, table_of(kind, (3,), (5,), (3,), (5,))),
                             ("standing", row_of(kind, 3, 5), []))
            self.assertEqual(standings(kind, machine, table_of(kind, (3,), (5,), (3,), (4,))), ("never",))
            one = standings(kind, machine, table_of(kind, (3,)))
            self.assertEqual((one[1][0], one[2]), (told(kind, 3), table_of(kind, (0, 1))))

    def test_each_list_of_answers_one_by_one(self):
        for prime, n, sights in ((2, 3, 1), (2, 2, 2), (3, 2, 1)):
            for machine in small_machines(prime, n, 1, sights, 6):
                for many in range(1, 5):
                    self.check_all(prime, n, machine, many)

    def check_all(self, prime, n, machine, many):
        given = {}
        for standing in standings_of(prime, n):
            seen = run(prime, machine, standing, resting(prime, machine, many - 1))
            given.setdefault(str(seen), set()).add(tuple(standing))
        for answers in all_choices(standings_of(prime, len(machine[2])), repeat=many):
            answer = standings(prime, machine, list(answers))
            found = set()
            if answer[0] == "standing":
                found = {tuple(plain_sum(prime, answer[1], list(row))) for row in all_of_room(prime, answer[2], n)}
            self.assertEqual(found, given.get(str(list(answers)), set()), (prime, machine, answers))

    def test_sixteen_answers_of_long_numbers(self):
        box = dice("long answers")
        for kind in (0, 2, 97):
            for machine in (machine_by_dice(box, kind, 5, 1, 3, 6), machine_by_dice(box, kind, 5, 1, 1, 6),
                            turned_by(kind, chain_machine(kind, (1, 2, 1, 1)), *turn_by_dice(box, kind, 5, 20))):
                seen = plain_run(kind, machine, row_by_dice(box, kind, 5, 60), resting(kind, machine, 15))
                self.assertEqual(self.check(kind, machine, seen), "standing")
                self.check(kind, machine, table_by_dice(box, kind, 16, len(machine[2]), 60))


class SeenInWhole(unittest.TestCase):
    def test_where_nothing_is_unseen_the_standing_itself_is_told(self):
        box = dice("in whole")
        for kind in KINDS:
            for n in range(1, 6):
                machine = turned_by(kind, chain_machine(kind, (0, n, 0, 0)), *turn_by_dice(box, kind, n))
                self.assertEqual(unseen_room(kind, machine), [])
                start = row_by_dice(box, kind, n)
                seen = plain_run(kind, machine, start, resting(kind, machine, n - 1))
                self.assertEqual(standings(kind, machine, seen), ("standing", start, []))
                self.assertEqual([dot(kind, row, start) for row in machine[2]], seen[0])


if __name__ == "__main__":
    unittest.main()

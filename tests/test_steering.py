"""[10] The steered room; [11] inputs from start to goal, and the fewest turns; [3] steering from nought."""

import unittest
from fractions import Fraction
from itertools import product as all_choices

from steermill.machines import next_of, turned_by
from steermill.steering import fewest, steer, steered_room
from tests.helper import (KINDS, PART_SIZES, all_of_room, all_sizes, by_dice, chain_machine, combined, dice, dot,
                          is_reduced, machine_by_dice, machines_of, nought_machine, noughts, plain_end, plain_image,
                          plain_less, plain_reduced, plain_steered, pushed_columns, rank, resting, row_by_dice, row_of,
                          rows_in_form, sizes_of, small_machines, table_by_dice, table_of, told, turn_by_dice,
                          unit_table)


def left_to_go(kind, machine, start, goal, turns):
    return plain_less(kind, goal, plain_end(kind, machine, start, resting(kind, machine, turns)))


def can_be(kind, machine, start, goal, turns):
    """Whether some inputs lead from start to goal in just so many turns."""
    columns = pushed_columns(kind, machine, turns)
    return rank(kind, columns) == rank(kind, columns + [left_to_go(kind, machine, start, goal, turns)])


def led_to(prime, machine, start, turns):
    """Each standing that some inputs lead to in just so many turns, as a set of tuples."""
    here = {tuple(start)}
    for _ in range(turns):
        here = {tuple(next_of(prime, machine, list(x), list(u))) for x in here
                for u in all_choices(range(prime), repeat=len(machine[1][0]))}
    return here


class SteeredRoom(unittest.TestCase):
    def test_is_the_reduced_form_of_b_and_its_images(self):
        sizes = set()
        for kind, machine in machines_of("steered rooms"):
            answer = steered_room(kind, machine)
            self.assertTrue(rows_in_form(kind, answer, len(machine[0])), (kind, machine))
            self.assertTrue(is_reduced(kind, answer), (kind, machine))
            self.assertEqual(answer, plain_steered(kind, machine), (kind, machine))
            for row in answer:
                self.assertEqual(rank(kind, answer + [plain_image(kind, machine[0], row)]), len(answer))
            sizes.add((len(machine[0]), len(answer)))
        self.assertEqual(sizes, {(n, many) for n in range(1, 6) for many in range(n + 1)})

    def test_b_of_noughts_gives_none(self):
        box = dice("no hands")
        for kind in KINDS:
            for n in range(1, 6):
                machine = machine_by_dice(box, kind, n, 2, 1)
                self.assertEqual(steered_room(kind, (machine[0], [noughts(kind, 2)] * n, machine[2])), [])
                self.assertEqual(steered_room(kind, nought_machine(kind, n, 1, 1)), [])

    def test_chains_are_steered_as_far_as_the_hand_reaches(self):
        for kind in KINDS:
            for sizes in all_sizes(5):
                steered = sizes[0] + sizes[1]
                wanted = unit_table(kind, sum(sizes))[:steered]
                self.assertEqual(steered_room(kind, chain_machine(kind, sizes)), wanted, (kind, sizes))

    def test_known_ones(self):
        for kind in KINDS:
            C = table_of(kind, (1, 0, 0))
            ring = table_of(kind, (0, 0, 1), (1, 0, 0), (0, 1, 0))
            self.assertEqual(steered_room(kind, (ring, table_of(kind, (1,), (1,), (1,)), C)), table_of(kind, (1, 1, 1)))
            self.assertEqual(steered_room(kind, (ring, table_of(kind, (0,), (1,), (0,)), C)), unit_table(kind, 3))
            self.assertEqual(steered_room(kind, (unit_table(kind, 3), table_of(kind, (0, 2), (1, 0), (1, 0)), C)),
                             plain_reduced(kind, table_of(kind, (0, 1, 1), (2, 0, 0))))
        self.assertEqual(steered_room(0, ([[(1, 2), (0, 1)], [(0, 1), (1, 2)]], [[(2, 3)], [(-1, 1)]], [[(0, 1)] * 2])),
                         [[(1, 1), (-3, 2)]])

    def test_the_last_turn_may_still_bring_a_row(self):
        # Each power of A brings one row, so that just n turns are needed.
        for kind in KINDS:
            for n in range(1, 6):
                machine = chain_machine(kind, (0, n, 0, 0))
                self.assertEqual(steered_room(kind, machine), unit_table(kind, n))
                last = unit_table(kind, n)[-1]
                self.assertEqual(fewest(kind, machine, noughts(kind, n), last, 15), n)

    def test_the_room_of_a_turned_machine_is_the_turned_room(self):
        box = dice("turned rooms")
        for kind in KINDS:
            for sizes in ((1, 2, 1, 1), (0, 3, 0, 2), (1, 0, 2, 0)):
                machine = chain_machine(kind, sizes)
                T, S = turn_by_dice(box, kind, sum(sizes))
                rows = [plain_image(kind, S, row) for row in steered_room(kind, machine)]
                self.assertEqual(steered_room(kind, turned_by(kind, machine, T, S)), plain_reduced(kind, rows))

    def test_just_what_inputs_lead_to_from_nought(self):
        for prime, n, hands in ((2, 3, 1), (2, 3, 2), (3, 2, 1), (5, 2, 1), (2, 4, 1)):
            for machine in small_machines(prime, n, hands, 1, 12):
                room = all_of_room(prime, steered_room(prime, machine), n)
                self.assertEqual(led_to(prime, machine, noughts(prime, n), n), room, machine)
                self.assertEqual(led_to(prime, machine, noughts(prime, n), n + 2), room, machine)

    def test_long_numbers_and_ten_numbers(self):
        box = dice("great rooms")
        for kind in (0, 97):
            machine = machine_by_dice(box, kind, 5, 1, 1, 6)
            self.assertEqual(steered_room(kind, machine), plain_steered(kind, machine))
            T, S = turn_by_dice(box, kind, 5, 20)
            there = turned_by(kind, chain_machine(kind, (1, 2, 1, 1)), T, S)
            self.assertEqual(steered_room(kind, there), plain_steered(kind, there))
            self.assertEqual(len(steered_room(kind, there)), 3)
            ten = machine_by_dice(box, kind, 10, 2, 1, 2)
            self.assertEqual(steered_room(kind, ten), plain_steered(kind, ten))
            chain = chain_machine(kind, (3, 4, 2, 1))
            self.assertEqual(steered_room(kind, chain), unit_table(kind, 10)[:7])

    def test_numbers_with_a_great_prime_in_them(self):
        # Great primes may serve as a short cut; what they divide, and what goes over them, must not lead astray.
        for prime in (2 ** 31 - 1, 2 ** 61 - 1, 2 ** 64 - 59):
            for A, B in ((((0,),), ((prime,),)), (((0,),), ((Fraction(1, prime),),)),
                         (((0, 0), (prime, 0)), ((1,), (0,))), (((0, 0), (Fraction(1, prime), 0)), ((1,), (0,))),
                         (((1, prime), (0, 1)), ((prime,), (1,))), (((1, 0), (0, prime + 1)), ((1,), (1,))),
                         (((1, 0), (0, 1)), ((prime, 1), (1, prime))), (((1, 0), (0, 1)), ((prime,), (1,)))):
                machine = (table_of(0, *A), table_of(0, *B), table_of(0, [1] * len(A)))
                self.assertEqual(steered_room(0, machine), plain_steered(0, machine), machine)


class SteerCase(unittest.TestCase):
    def check(self, kind, machine, start, goal, turns):
        """Holds what is told against the machine, and tells which it was."""
        case = (kind, machine, start, goal, turns)
        n, hands, sights = sizes_of(machine)
        answer = steer(kind, machine, start, goal, turns)
        self.assertIs(type(answer), tuple, case)
        self.assertEqual(len(answer), 2, case)
        word, found = answer
        self.assertEqual(word, "inputs" if can_be(kind, machine, start, goal, turns) else "never", case)
        if word == "inputs":
            self.assertEqual(len(found), turns, case)
            self.assertTrue(rows_in_form(kind, found, hands), case)
            self.assertEqual(plain_end(kind, machine, start, found), goal, case)
        else:
            self.assertTrue(rows_in_form(kind, [found], n), case)
            for column in pushed_columns(kind, machine, turns):
                self.assertEqual(dot(kind, found, column), told(kind, 0), case)
            came_to = plain_end(kind, machine, start, resting(kind, machine, turns))
            self.assertNotEqual(dot(kind, found, goal), dot(kind, found, came_to), case)
        return word


class Steering(SteerCase):
    def test_to_any_goal(self):
        box = dice("any goals")
        words = []
        for kind, machine in machines_of("steer"):
            n = len(machine[0])
            for turns in (0, 1, 2, n - 1, n, n + 2):
                start, goal = row_by_dice(box, kind, n), row_by_dice(box, kind, n)
                words.append((turns > 0, self.check(kind, machine, start, goal, turns)))
        for word in ((False, "inputs"), (False, "never"), (True, "inputs"), (True, "never")):
            self.assertGreater(words.count(word), 5, word)

    def test_to_goals_that_inputs_led_to(self):
        box = dice("led goals")
        for kind, machine in machines_of("led"):
            n, hands, sights = sizes_of(machine)
            for turns in (0, 1, 2, n, n + 3):
                start = row_by_dice(box, kind, n)
                goal = plain_end(kind, machine, start, [row_by_dice(box, kind, hands) for _ in range(turns)])
                self.assertEqual(self.check(kind, machine, start, goal, turns), "inputs")

    def test_what_runs_against_the_room_changes_with_the_turns(self):
        # The number that no hand moves is turned about each time, so the turns alone tell which goal can be.
        for kind in KINDS:
            machine = (table_of(kind, (1, 0), (0, -1)), table_of(kind, (1,), (0,)), table_of(kind, (1, 1)))
            start, same, other = row_of(kind, 0, 1), row_of(kind, 5, 1), row_of(kind, 5, -1)
            for turns in range(1, 8):
                even = turns % 2 == 0 or kind == 2
                self.assertEqual(self.check(kind, machine, start, same, turns), "inputs" if even else "never")
                even = turns % 2 == 1 or kind == 2
                self.assertEqual(self.check(kind, machine, start, other, turns), "inputs" if even else "never")

    def test_no_turns(self):
        box = dice("no turns")
        for kind in KINDS:
            for n in range(1, 6):
                machine = machine_by_dice(box, kind, n, 1 + n % 3, 1)
                start = row_by_dice(box, kind, n)
                self.assertEqual(steer(kind, machine, start, list(start), 0), ("inputs", []))
                goal = list(start)
                goal[n // 2] = told(kind, goal[n // 2] + 1 if kind else goal[n // 2][0] + goal[n // 2][1])
                self.assertEqual(self.check(kind, machine, start, goal, 0), "never")

    def test_of_noughts(self):
        for kind in KINDS:
            machine = nought_machine(kind, 3, 2, 1)
            some, nought = row_of(kind, 1, 0, 0), noughts(kind, 3)
            self.assertEqual(self.check(kind, machine, some, nought, 1), "inputs")
            self.assertEqual(self.check(kind, machine, some, some, 0), "inputs")
            for turns in (1, 2, 3, 4, 15):
                self.assertEqual(self.check(kind, machine, some, some, turns), "never")

    def test_known_inputs(self):
        # With one hand and n turns there is but one way to each goal.
        for kind in KINDS:
            chain = chain_machine(kind, (0, 3, 0, 0))
            self.assertEqual(steer(kind, chain, noughts(kind, 3), row_of(kind, 3, 2, 1), 3),
                             ("inputs", table_of(kind, (1,), (2,), (3,))))
            self.assertEqual(self.check(kind, chain, noughts(kind, 3), row_of(kind, 3, 2, 1), 2), "never")
        self.assertEqual(steer(0, ([[(1, 2)]], [[(3, 1)]], [[(1, 1)]]), [(1, 1)], [(2, 1)], 1), ("inputs", [[(1, 2)]]))

    def test_from_nought_to_all_of_the_room_in_as_many_turns_as_numbers(self):
        box = dice("from nought")
        for kind, machine in machines_of("nought"):
            n = len(machine[0])
            room = plain_steered(kind, machine)
            goal = combined(kind, [by_dice(box, kind) for _ in room], room, n)
            self.assertEqual(self.check(kind, machine, noughts(kind, n), goal, n), "inputs")
            self.assertLessEqual(fewest(kind, machine, noughts(kind, n), goal, n), n)

    def test_fifteen_turns_of_long_numbers(self):
        box = dice("long goals")
        for kind in (0, 2, 97):
            for machine in (machine_by_dice(box, kind, 5, 1, 1, 6), machine_by_dice(box, kind, 5, 3, 1, 6),
                            turned_by(kind, chain_machine(kind, (1, 2, 1, 1)), *turn_by_dice(box, kind, 5, 20))):
                start, goal = row_by_dice(box, kind, 5, 60), row_by_dice(box, kind, 5, 60)
                self.check(kind, machine, start, goal, 15)
                inputs = table_by_dice(box, kind, 15, len(machine[1][0]), 60)
                goal = plain_end(kind, machine, start, inputs)
                self.assertEqual(self.check(kind, machine, start, goal, 15), "inputs")

    def test_each_goal_one_by_one(self):
        for prime, n, hands in ((2, 3, 1), (3, 2, 1), (2, 2, 2)):
            for machine in small_machines(prime, n, hands, 1, 6):
                start = [1] * n
                for turns in range(n + 3):
                    reached = led_to(prime, machine, start, turns)
                    for goal in all_choices(range(prime), repeat=n):
                        word = self.check(prime, machine, start, list(goal), turns)
                        self.assertEqual(word == "inputs", goal in reached, (machine, goal, turns))


class FewestTurns(unittest.TestCase):
    def check(self, kind, machine, start, goal, most):
        answer = fewest(kind, machine, start, goal, most)
        counts = [turns for turns in range(most + 1) if can_be(kind, machine, start, goal, turns)]
        self.assertEqual(answer, counts[0] if counts else None, (kind, machine, start, goal, most))
        if answer is not None:
            self.assertIs(type(answer), int)
            self.assertEqual(steer(kind, machine, start, goal, answer)[0], "inputs")
        return answer

    def test_against_each_count_from_nought_on(self):
        box = dice("fewest goals")
        found = set()
        for kind, machine in machines_of("fewest"):
            n, hands, sights = sizes_of(machine)
            start = row_by_dice(box, kind, n)
            for turns in (0, 1, 3, n):
                goal = plain_end(kind, machine, start, [row_by_dice(box, kind, hands) for _ in range(turns)])
                found.add(self.check(kind, machine, start, goal, 6))
            found.add(self.check(kind, machine, start, row_by_dice(box, kind, n), 6))
        self.assertLessEqual({None, 0, 1, 2, 3, 4, 5}, found)

    def test_nought_turns_where_start_and_goal_are_the_same(self):
        box = dice("same goals")
        for kind, machine in machines_of("same", (0, 2, 97)):
            start = row_by_dice(box, kind, len(machine[0]))
            for most in (0, 1, 15):
                self.assertEqual(fewest(kind, machine, start, list(start), most), 0)

    def test_the_told_count_is_still_allowed_and_no_more(self):
        for kind in KINDS:
            chain = chain_machine(kind, (0, 4, 0, 0))
            start, goal = noughts(kind, 4), row_of(kind, 1, 0, 1, 0)
            for most in range(7):
                self.assertEqual(fewest(kind, chain, start, goal, most), 3 if most >= 3 else None, (kind, most))

    def test_more_turns_than_numbers_may_be_needed(self):
        # The second number grows by one at each turn, and the hand moves the first alone.
        for kind in (0, 7, 31, 97):
            A = table_of(kind, (1, 0, 0), (0, 1, 1), (0, 0, 1))
            machine = (A, table_of(kind, (1,), (0,), (0,)), table_of(kind, (1, 1, 1)))
            start = row_of(kind, 0, 0, 1)
            for count in (1, 3, 4, 6, 15 if kind != 7 else 5):
                for most in (count - 1, count, 15):
                    answer = self.check(kind, machine, start, row_of(kind, 3, count, 1), most)
                    self.assertEqual(answer, count if most >= count else None, (kind, count, most))

    def test_none_where_there_is_none(self):
        for kind in KINDS:
            for sizes in PART_SIZES:
                if sizes[2] + sizes[3] > 0:
                    machine = chain_machine(kind, sizes)
                    goal = unit_table(kind, sum(sizes))[-1]
                    self.assertIsNone(fewest(kind, machine, noughts(kind, sum(sizes)), goal, 15))

    def test_what_could_be_had_at_first_may_not_be_later(self):
        for kind in KINDS:
            machine = nought_machine(kind, 2, 1, 1)
            some = row_of(kind, 1, 0)
            self.assertEqual(fewest(kind, machine, some, some, 15), 0)
            self.assertEqual(fewest(kind, machine, some, noughts(kind, 2), 15), 1)
            self.assertIsNone(fewest(kind, machine, noughts(kind, 2), some, 15))

    def test_each_goal_one_by_one(self):
        for prime, n, hands in ((2, 3, 1), (3, 2, 1), (5, 1, 1)):
            for machine in small_machines(prime, n, hands, 1, 6):
                start = [1] * n
                steps = [led_to(prime, machine, start, turns) for turns in range(9)]
                for goal in all_choices(range(prime), repeat=n):
                    wanted = next((turns for turns, reached in enumerate(steps) if goal in reached), None)
                    self.assertEqual(fewest(prime, machine, start, list(goal), 8), wanted, (machine, goal))

    def test_long_numbers(self):
        box = dice("long ways")
        machine = turned_by(0, chain_machine(0, (1, 2, 0, 2)), *turn_by_dice(box, 0, 5, 6))
        start = row_by_dice(box, 0, 5, 60)
        goal = plain_end(0, machine, start, table_by_dice(box, 0, 3, 1, 60))
        self.assertEqual(self.check(0, machine, start, goal, 5), 3)
        self.assertIsNone(fewest(0, machine, start, row_by_dice(box, 0, 5, 60), 15))


if __name__ == "__main__":
    unittest.main()

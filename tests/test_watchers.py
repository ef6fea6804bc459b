"""[18] Watchers, and machines with a rule and a watcher; [3] put together both run as they do apart."""

import unittest
from itertools import product as all_choices

from steermill.machines import next_of, turned_by
from steermill.polys import great
from steermill.rules import rest_rule, rule_for
from steermill.seeing import unseen_room
from steermill.watchers import put_together, watcher_for
from tests.helper import (KINDS, all_sizes, chain_machine, dice, handed_on, in_corners, machine_by_dice, machines_of,
                          mirror_of, nought_machine, noughts, plain_great, plain_image, plain_less, plain_product,
                          plain_ruled, plain_sum, plain_table_sum, plain_turned_by, plain_watched, poly_by_dice,
                          poly_product, poly_rest, pulled_rows, rank, row_by_dice, row_of, rows_in_form, rule_by_dice,
                          sizes_of, split_machines, table_by_dice, table_of, to_rest, told, turn_by_dice,
                          unit_table, watcher_by_dice, whole_machines)


def half_seen(box, kind, seen, others, sights):
    """A machine of a part that is seen in whole and of one that is unseen, which has its own table; and this table."""
    inner = handed_on(kind, seen, row_by_dice(box, kind, seen, 1), 1, sights)
    alone = table_by_dice(box, kind, others, others, 1)
    A = in_corners(kind, inner[0], alone)
    for row in A[seen:]:
        row[:seen] = row_by_dice(box, kind, seen, 1)
    C = [row + noughts(kind, others) for row in inner[2]]
    return (A, table_by_dice(box, kind, seen + others, 2, 1), C), alone


def next_guess(kind, machine, L, guess, inputs, seen):
    """The next guess, by the words of the document."""
    missed = plain_less(kind, plain_image(kind, machine[2], guess), seen)
    onward = plain_sum(kind, plain_image(kind, machine[0], guess), plain_image(kind, machine[1], inputs))
    return plain_sum(kind, onward, plain_image(kind, L, missed))


class WatcherCase(unittest.TestCase):
    def check(self, kind, machine, polynomial):
        """Holds what is told against the machine, and tells it."""
        n, hands, sights = sizes_of(machine)
        answer = watcher_for(kind, machine, polynomial)
        case = (kind, machine, polynomial, answer)
        self.assertIs(type(answer), tuple, case)
        self.assertEqual(len(answer), 2, case)
        unseen = n - rank(kind, pulled_rows(kind, machine, n))
        self.assertEqual(answer[0], "watcher" if unseen == 0 else "fixed", case)
        if answer[0] == "watcher":
            self.assertTrue(rows_in_form(kind, answer[1], sights) and len(answer[1]) == n, case)
            self.assertEqual(plain_great(kind, plain_watched(kind, machine, answer[1])), polynomial, case)
        else:
            self.check_fixed(kind, machine, answer[1], unseen, case)
        return answer

    def check_fixed(self, kind, machine, fixed, degree, case):
        self.assertGreaterEqual(degree, 1, case)
        self.assertTrue(rows_in_form(kind, [fixed], degree + 1), case)
        self.assertEqual(fixed[-1], told(kind, 1), case)
        box = dice("watchers of no avail")
        for _ in range(4):
            found = plain_great(kind, plain_watched(kind, machine, watcher_by_dice(box, kind, machine)))
            self.assertEqual(poly_rest(kind, found, fixed), [], case)


class Watchers(WatcherCase):
    def test_drawn_ones_ones_of_noughts_and_ones_in_parts(self):
        box = dice("wished guesses")
        words = [self.check(kind, machine, poly_by_dice(box, kind, len(machine[0])))[0]
                 for kind, machine in machines_of("watchers")]
        self.assertGreater(words.count("watcher"), 100)
        self.assertGreater(words.count("fixed"), 100)

    def test_each_count_of_numbers_hands_and_sights(self):
        box = dice("wished of what is seen")
        for kind, machine in whole_machines("seen in whole"):
            n = len(machine[0])
            for polynomial in (poly_by_dice(box, kind, n), to_rest(kind, n)):
                self.assertEqual(self.check(kind, machine, polynomial)[0], "watcher")

    def test_no_sight_sees_all_by_itself(self):
        box = dice("wished of several sights")
        for kind, machine in split_machines("several ends"):
            self.assertEqual(self.check(kind, machine, poly_by_dice(box, kind, len(machine[0])))[0], "watcher")

    def test_sights_that_see_nothing_or_the_same(self):
        box = dice("idle sights")
        for kind in KINDS:
            for n in range(1, 6):
                A, B, C = handed_on(kind, n, row_by_dice(box, kind, n), 1, 1)
                for sights in ([noughts(kind, n), C[0]], [C[0], C[0]], [noughts(kind, n), noughts(kind, n), C[0]]):
                    self.assertEqual(self.check(kind, (A, B, sights), poly_by_dice(box, kind, n))[0], "watcher")

    def test_with_one_sight_it_is_the_only_one(self):
        box = dice("one sight")
        for kind in KINDS:
            for n in range(1, 6):
                machine = handed_on(kind, n, row_by_dice(box, kind, n), 2, 1)
                machine = plain_turned_by(kind, machine, *turn_by_dice(box, kind, n))
                L = watcher_by_dice(box, kind, machine, 3)
                wished = plain_great(kind, plain_watched(kind, machine, L))
                self.assertEqual(watcher_for(kind, machine, wished), ("watcher", L))

    def test_each_watcher_of_one_sight_one_by_one(self):
        box = dice("all watchers")
        for prime, n in ((2, 1), (2, 2), (2, 3), (3, 2), (5, 2)):
            machine = handed_on(prime, n, row_by_dice(box, prime, n), 1, 1)
            machine = plain_turned_by(prime, machine, *turn_by_dice(box, prime, n))
            for numbers in all_choices(range(prime), repeat=n):
                L = [[x] for x in numbers]
                wished = plain_great(prime, plain_watched(prime, machine, L))
                self.assertEqual(watcher_for(prime, machine, wished), ("watcher", L))

    def test_known_ones(self):
        for kind in KINDS:
            machine = (table_of(kind, (1, 1), (0, 1)), table_of(kind, (0,), (1,)), table_of(kind, (1, 0)))
            self.assertEqual(watcher_for(kind, machine, to_rest(kind, 2)),
                             ("watcher", table_of(kind, (-2,), (-1,))))
            one = (table_of(kind, (4,)), table_of(kind, (0,)), table_of(kind, (1,)))
            self.assertEqual(watcher_for(kind, one, row_of(kind, -6, 1)), ("watcher", table_of(kind, (2,))))

    def test_what_is_steered_does_not_matter(self):
        box = dice("no hands")
        for kind in KINDS:
            A, B, C = handed_on(kind, 3, row_by_dice(box, kind, 3), 1, 1)
            machine = (A, [noughts(kind, 1) for _ in B], C)
            self.assertEqual(self.check(kind, machine, poly_by_dice(box, kind, 3))[0], "watcher")
            self.assertEqual(rest_rule(kind, machine)[0], "fixed")

    def test_long_numbers(self):
        box = dice("long watchers")
        for sights in (1, 2, 3):
            machine = machine_by_dice(box, 0, 5, 1, sights, 6)
            self.assertEqual(self.check(0, machine, poly_by_dice(box, 0, 5, 60))[0], "watcher")
        turned_one = turned_by(0, chain_machine(0, (2, 1, 1, 1)), *turn_by_dice(box, 0, 5, 20))
        self.assertEqual(watcher_for(0, turned_one, poly_by_dice(box, 0, 5, 60)), ("fixed", row_of(0, 0, 0, 0, 1)))


class Fixed(WatcherCase):
    def test_it_is_the_great_polynomial_on_the_unseen_room(self):
        box = dice("not seen")
        for kind in KINDS:
            for seen, others, sights in all_choices((1, 2, 3), (1, 2, 4), (1, 2, 3)):
                n = seen + others
                if n <= 5:
                    machine, alone = half_seen(box, kind, seen, others, sights)
                    for one in (machine, plain_turned_by(kind, machine, *turn_by_dice(box, kind, n))):
                        self.assertEqual(self.check(kind, one, poly_by_dice(box, kind, n)),
                                         ("fixed", plain_great(kind, alone)))

    def test_nothing_is_seen(self):
        box = dice("not at all")
        for kind in KINDS:
            for n in range(1, 6):
                A = table_by_dice(box, kind, n, n)
                machine = (A, table_by_dice(box, kind, n, 2), [noughts(kind, n)])
                self.assertEqual(self.check(kind, machine, poly_by_dice(box, kind, n)), ("fixed", plain_great(kind, A)))
                still = nought_machine(kind, n, 1, 1)
                self.assertEqual(watcher_for(kind, still, poly_by_dice(box, kind, n)), ("fixed", to_rest(kind, n)))

    def test_each_of_the_four_sizes(self):
        box = dice("unseen chains")
        for kind in KINDS:
            for a, b, c, d in all_sizes(5 if kind in (0, 2, 97) else 3):
                n = a + b + c + d
                machine = chain_machine(kind, (a, b, c, d))
                for one in (machine, plain_turned_by(kind, machine, *turn_by_dice(box, kind, n))):
                    answer = watcher_for(kind, one, poly_by_dice(box, kind, n))
                    if a + c > 0:
                        self.assertEqual(answer, ("fixed", to_rest(kind, a + c)))
                    else:
                        self.assertEqual(answer[0], "watcher")

    def test_as_many_degrees_as_the_unseen_room_has_rows(self):
        for kind, machine in machines_of("degrees", (0, 2, 5, 97)):
            answer = watcher_for(kind, machine, to_rest(kind, len(machine[0])))
            room = unseen_room(kind, machine)
            self.assertEqual(answer[0] == "watcher", room == [])
            if room:
                self.assertEqual(len(answer[1]), len(room) + 1)

    def test_a_rule_of_the_mirrored_machine_is_fixed_alike(self):
        for kind, machine in machines_of("mirrored", (0, 3)):
            answer = watcher_for(kind, machine, to_rest(kind, len(machine[0])))
            if answer[0] == "fixed":
                self.assertEqual(rest_rule(kind, mirror_of(machine)), answer)


class PutTogether(unittest.TestCase):
    def check(self, kind, machine, F, L):
        n = len(machine[0])
        table = put_together(kind, machine, F, L)
        case = (kind, machine, F, L)
        self.assertTrue(rows_in_form(kind, table, 2 * n) and len(table) == 2 * n, case)
        box = dice("standings and guesses")
        pairs = [(row[:n], row[n:]) for row in unit_table(kind, 2 * n)]
        pairs.append((row_by_dice(box, kind, n), row_by_dice(box, kind, n)))
        for standing, guess in pairs:
            inputs = plain_image(kind, F, guess)
            onward = next_of(kind, machine, standing, inputs)
            seen = plain_image(kind, machine[2], standing)
            guessed = next_guess(kind, machine, L, guess, inputs, seen)
            self.assertEqual(plain_image(kind, table, standing + guess), onward + guessed, case)
        self.assertEqual(great(kind, table), poly_product(kind, plain_great(kind, plain_ruled(kind, machine, F)),
                                                          plain_great(kind, plain_watched(kind, machine, L))), case)
        return table

    def test_drawn_rules_and_watchers(self):
        box = dice("put together")
        for kind, machine in machines_of("together"):
            self.check(kind, machine, rule_by_dice(box, kind, machine), watcher_by_dice(box, kind, machine))

    def test_told_rules_and_watchers(self):
        box = dice("told ones")
        many = 0
        for machines in (whole_machines("told together"), split_machines("told and split")):
            for kind, machine in machines:
                n = len(machine[0])
                one, other = poly_by_dice(box, kind, n, 1), poly_by_dice(box, kind, n, 1)
                F, L = rule_for(kind, machine, one)[1], watcher_for(kind, machine, other)[1]
                table = put_together(kind, machine, F, L)
                self.assertEqual(great(kind, table), poly_product(kind, one, other), (kind, machine))
                if n < 4:
                    self.check(kind, machine, F, L)
                many += 1
        self.assertGreater(many, 300)

    def test_the_parts_of_the_table(self):
        box = dice("parts of the table")
        for kind in KINDS:
            for n, hands, sights in ((1, 1, 1), (2, 3, 1), (5, 2, 3)):
                machine = machine_by_dice(box, kind, n, hands, sights)
                F, L = rule_by_dice(box, kind, machine), watcher_by_dice(box, kind, machine)
                table = put_together(kind, machine, F, L)
                by_rule, by_sight = plain_product(kind, machine[1], F), plain_product(kind, L, machine[2])
                self.assertEqual([row[:n] for row in table[:n]], machine[0])
                self.assertEqual([row[n:] for row in table[:n]], by_rule)
                self.assertEqual([row[:n] for row in table[n:]],
                                 [plain_less(kind, noughts(kind, n), row) for row in by_sight])
                self.assertEqual([row[n:] for row in table[n:]],
                                 plain_table_sum(kind, plain_ruled(kind, machine, F), by_sight))

    def test_noughts_for_rule_and_watcher_leave_two_machines(self):
        for kind, machine in machines_of("idle", (0, 2, 97)):
            n, hands, sights = sizes_of(machine)
            table = put_together(kind, machine, [noughts(kind, n) for _ in range(hands)],
                                 [noughts(kind, sights) for _ in range(n)])
            self.assertEqual(table, in_corners(kind, machine[0], machine[0]))

    def test_a_right_guess_stays_right(self):
        box = dice("right guesses")
        for kind, machine in machines_of("guesses", (0, 2, 31)):
            n = len(machine[0])
            F, L = rule_by_dice(box, kind, machine), watcher_by_dice(box, kind, machine)
            standing = row_by_dice(box, kind, n)
            onward = plain_image(kind, put_together(kind, machine, F, L), standing + standing)
            self.assertEqual(onward[:n], onward[n:])
            self.assertEqual(onward[:n], plain_image(kind, plain_ruled(kind, machine, F), standing))

    def test_the_fault_of_a_guess_runs_by_the_watcher_alone(self):
        box = dice("faults of guesses")
        for kind, machine in machines_of("wrong guesses", (0, 3, 97)):
            n = len(machine[0])
            F, L = rule_by_dice(box, kind, machine), watcher_by_dice(box, kind, machine)
            both = row_by_dice(box, kind, 2 * n)
            onward = plain_image(kind, put_together(kind, machine, F, L), both)
            fault = plain_less(kind, both[n:], both[:n])
            self.assertEqual(plain_less(kind, onward[n:], onward[:n]),
                             plain_image(kind, plain_watched(kind, machine, L), fault))

    def test_with_both_to_rest_all_comes_to_nought(self):
        box = dice("both to rest")
        for kind, machine in whole_machines("rest by guess", (0, 2, 97), 4):
            n = len(machine[0])
            F, L = rest_rule(kind, machine)[1], watcher_for(kind, machine, to_rest(kind, n))[1]
            both = row_by_dice(box, kind, 2 * n)
            for _ in range(2 * n):
                both = plain_image(kind, put_together(kind, machine, F, L), both)
            self.assertEqual(both, noughts(kind, 2 * n))

    def test_long_numbers(self):
        box = dice("long together")
        for hands, sights in ((1, 1), (2, 3)):
            machine = machine_by_dice(box, 0, 5, hands, sights, 6)
            one, other = poly_by_dice(box, 0, 5, 60), poly_by_dice(box, 0, 5, 60)
            table = put_together(0, machine, rule_for(0, machine, one)[1], watcher_for(0, machine, other)[1])
            self.assertEqual(great(0, table), poly_product(0, one, other))


if __name__ == "__main__":
    unittest.main()

"""[17] Rules; [3] a machine that can be steered anywhere has a rule for every wished running-down."""

import unittest
from itertools import product as all_choices

from steermill.machines import turned_by
from steermill.polys import great
from steermill.rules import rest_rule, rule_for
from steermill.steering import steered_room
from tests.helper import (KINDS, all_sizes, chain_machine, dice, handed_on, in_corners, machine_by_dice, machines_of,
                          nought_machine, noughts, parted_by_dice, plain_great, plain_image, plain_powers,
                          plain_ruled, plain_steered, plain_turned_by, poly_by_dice, poly_product, poly_rest,
                          row_by_dice, row_of, rows_in_form, rule_by_dice, sizes_of, split_machines,
                          table_by_dice, table_of, to_rest, told, turn_by_dice, unit_table, whole_machines)


def half_steered(box, kind, steered, others, hands):
    """A machine of a part that is steered in whole and of one that is not, which has its own table; and this table."""
    inner = handed_on(kind, steered, row_by_dice(box, kind, steered, 1), hands, 1)
    alone = table_by_dice(box, kind, others, others, 1)
    A = in_corners(kind, inner[0], alone)
    for row in A[:steered]:
        row[steered:] = row_by_dice(box, kind, others, 1)
    B = inner[1] + [noughts(kind, hands) for _ in alone]
    C = table_by_dice(box, kind, 1, steered + others, 1)
    return (A, B, C), alone


class RuleCase(unittest.TestCase):
    def check(self, kind, machine, polynomial):
        """Holds what is told against the machine, and tells which it was."""
        n, hands, sights = sizes_of(machine)
        answer = rule_for(kind, machine, polynomial)
        case = (kind, machine, polynomial, answer)
        self.assertIs(type(answer), tuple, case)
        self.assertEqual(len(answer), 2, case)
        many = len(plain_steered(kind, machine))
        self.assertEqual(answer[0], "rule" if many == n else "fixed", case)
        if answer[0] == "rule":
            self.assertTrue(rows_in_form(kind, answer[1], n) and len(answer[1]) == hands, case)
            self.assertEqual(plain_great(kind, plain_ruled(kind, machine, answer[1])), polynomial, case)
        else:
            self.check_fixed(kind, machine, answer[1], n - many, case)
        return answer

    def check_fixed(self, kind, machine, fixed, degree, case):
        self.assertTrue(rows_in_form(kind, [fixed], degree + 1), case)
        self.assertEqual(fixed[-1], told(kind, 1), case)
        box = dice("rules of no avail")
        for _ in range(4):
            found = plain_great(kind, plain_ruled(kind, machine, rule_by_dice(box, kind, machine)))
            self.assertEqual(poly_rest(kind, found, fixed), [], case)


class Rules(RuleCase):
    def test_drawn_ones_ones_of_noughts_and_ones_in_parts(self):
        box = dice("wished")
        words = [self.check(kind, machine, poly_by_dice(box, kind, len(machine[0])))[0]
                 for kind, machine in machines_of("rules")]
        self.assertGreater(words.count("rule"), 100)
        self.assertGreater(words.count("fixed"), 100)

    def test_each_count_of_numbers_hands_and_sights(self):
        box = dice("wished in whole")
        for kind, machine in whole_machines("steered in whole"):
            n = len(machine[0])
            for polynomial in (poly_by_dice(box, kind, n), to_rest(kind, n), row_of(kind, *[1] * (n + 1))):
                self.assertEqual(self.check(kind, machine, polynomial)[0], "rule")

    def test_no_hand_steers_all_by_itself(self):
        box = dice("wished of several")
        for kind, machine in split_machines("several chains"):
            self.assertEqual(self.check(kind, machine, poly_by_dice(box, kind, len(machine[0])))[0], "rule")

    def test_hands_that_do_nothing_or_the_same(self):
        box = dice("idle hands")
        for kind in KINDS:
            for n in range(1, 6):
                A, B, C = chain_machine(kind, (0, n, 0, 0))
                nought = told(kind, 0)
                polynomial = poly_by_dice(box, kind, n)
                for hands in ([[nought, row[0]] for row in B], [[row[0], row[0]] for row in B],
                              [[nought, nought, row[0]] for row in B], [[row[0], nought, row[0]] for row in B]):
                    self.assertEqual(self.check(kind, (A, hands, C), polynomial)[0], "rule")

    def test_a_hand_for_each_number(self):
        box = dice("many hands")
        for kind in KINDS:
            for n in (1, 2, 3):
                for A in (unit_table(kind, n), [noughts(kind, n) for _ in range(n)], table_by_dice(box, kind, n, n)):
                    machine = (A, unit_table(kind, n), table_by_dice(box, kind, 1, n))
                    self.assertEqual(self.check(kind, machine, poly_by_dice(box, kind, n))[0], "rule")

    def test_with_one_hand_it_is_the_only_one(self):
        box = dice("one hand")
        for kind in KINDS:
            for n in range(1, 6):
                machine = handed_on(kind, n, row_by_dice(box, kind, n), 1, 1)
                machine = plain_turned_by(kind, machine, *turn_by_dice(box, kind, n))
                for _ in range(3):
                    F = rule_by_dice(box, kind, machine, 3)
                    wished = plain_great(kind, plain_ruled(kind, machine, F))
                    self.assertEqual(rule_for(kind, machine, wished), ("rule", F))
                self.assertEqual(rule_for(kind, machine, plain_great(kind, machine[0])), ("rule", [noughts(kind, n)]))

    def test_each_rule_of_one_hand_one_by_one(self):
        box = dice("all rules")
        for prime, n in ((2, 1), (2, 2), (2, 3), (2, 4), (3, 2), (3, 3), (5, 2)):
            machine = handed_on(prime, n, row_by_dice(box, prime, n), 1, 1)
            machine = plain_turned_by(prime, machine, *turn_by_dice(box, prime, n))
            found = []
            for numbers in all_choices(range(prime), repeat=n):
                wished = plain_great(prime, plain_ruled(prime, machine, [list(numbers)]))
                self.assertEqual(rule_for(prime, machine, wished), ("rule", [list(numbers)]))
                found.append(tuple(wished))
            self.assertEqual(len(set(found)), prime ** n)

    def test_each_polynomial_of_several_hands_one_by_one(self):
        for prime in (2, 3):
            for kind, machine in split_machines("all wished", (prime,)):
                n = len(machine[0])
                if prime ** n < 40:
                    for numbers in all_choices(range(prime), repeat=n):
                        self.assertEqual(self.check(kind, machine, list(numbers) + [1])[0], "rule")

    def test_known_ones(self):
        for kind in KINDS:
            machine = (table_of(kind, (1, 1), (0, 1)), table_of(kind, (0,), (1,)), table_of(kind, (1, 0)))
            self.assertEqual(rule_for(kind, machine, row_of(kind, 0, 0, 1)), ("rule", table_of(kind, (-1, -2))))
            self.assertEqual(rule_for(kind, machine, row_of(kind, 3, 5, 1)), ("rule", table_of(kind, (-9, -7))))
            one = (table_of(kind, (4,)), table_of(kind, (1,)), table_of(kind, (0,)))
            self.assertEqual(rule_for(kind, one, row_of(kind, -6, 1)), ("rule", table_of(kind, (2,))))
        self.assertEqual(rule_for(0, ([[(1, 2)]], [[(3, 1)]], [[(1, 1)]]), [(1, 3), (1, 1)]),
                         ("rule", [[(-5, 18)]]))

    def test_long_numbers(self):
        box = dice("long rules")
        for hands in (1, 2, 3):
            machine = machine_by_dice(box, 0, 5, hands, 1, 6)
            self.assertEqual(self.check(0, machine, poly_by_dice(box, 0, 5, 60))[0], "rule")
        turned_one = turned_by(0, chain_machine(0, (2, 1, 1, 1)), *turn_by_dice(box, 0, 5, 20))
        self.assertEqual(rule_for(0, turned_one, poly_by_dice(box, 0, 5, 60)), ("fixed", row_of(0, 0, 0, 1)))


class Fixed(RuleCase):
    def test_it_is_the_great_polynomial_of_what_is_not_steered(self):
        box = dice("not steered")
        for kind in KINDS:
            for steered, others, hands in all_choices((1, 2, 3), (1, 2, 4), (1, 2, 3)):
                if steered + others <= 5:
                    machine, alone = half_steered(box, kind, steered, others, hands)
                    wished = poly_by_dice(box, kind, steered + others)
                    for one in (machine, plain_turned_by(kind, machine, *turn_by_dice(box, kind, steered + others))):
                        self.assertEqual(self.check(kind, one, wished), ("fixed", plain_great(kind, alone)))

    def test_the_wished_one_does_not_matter(self):
        # Not even one that some rule has.
        box = dice("whatever is wished")
        for kind in KINDS:
            machine, alone = half_steered(box, kind, 2, 2, 1)
            wanted = ("fixed", plain_great(kind, alone))
            for polynomial in (plain_great(kind, machine[0]), to_rest(kind, 4), poly_by_dice(box, kind, 4)):
                self.assertEqual(rule_for(kind, machine, polynomial), wanted)

    def test_nothing_is_steered(self):
        box = dice("not at all")
        for kind in KINDS:
            for n in range(1, 6):
                A = table_by_dice(box, kind, n, n)
                machine = (A, [noughts(kind, 2) for _ in range(n)], table_by_dice(box, kind, 1, n))
                self.assertEqual(self.check(kind, machine, poly_by_dice(box, kind, n)), ("fixed", great(kind, A)))
                still = nought_machine(kind, n, 1, 1)
                self.assertEqual(rule_for(kind, still, poly_by_dice(box, kind, n)), ("fixed", to_rest(kind, n)))

    def test_each_of_the_four_sizes(self):
        box = dice("chains")
        for kind in KINDS:
            for a, b, c, d in all_sizes(5 if kind in (0, 2, 97) else 3):
                machine = chain_machine(kind, (a, b, c, d))
                n = a + b + c + d
                for one in (machine, plain_turned_by(kind, machine, *turn_by_dice(box, kind, n))):
                    answer = rule_for(kind, one, poly_by_dice(box, kind, n))
                    if c + d > 0:
                        self.assertEqual(answer, ("fixed", to_rest(kind, c + d)))
                    else:
                        self.assertEqual(answer[0], "rule")

    def test_no_other_of_its_degree_divides_all(self):
        for prime, n in ((2, 2), (2, 3), (3, 2)):
            box = dice("all that divide")
            for _ in range(12):
                machine = machine_by_dice(box, prime, n, 1, 1)
                answer = rule_for(prime, machine, to_rest(prime, n))
                if answer[0] == "fixed":
                    found = [plain_great(prime, plain_ruled(prime, machine, [list(numbers)]))
                             for numbers in all_choices(range(prime), repeat=n)]
                    dividing = [list(low) + [1] for low in all_choices(range(prime), repeat=len(answer[1]) - 1)
                                if all(poly_rest(prime, poly, list(low) + [1]) == [] for poly in found)]
                    self.assertEqual(dividing, [answer[1]], (prime, machine))

    def test_a_turn_changes_nothing(self):
        box = dice("turned fixed")
        for kind in KINDS:
            for sizes in ((1, 1, 1, 1), (0, 2, 0, 2), (1, 0, 3, 1), (0, 0, 2, 2)):
                machine = parted_by_dice(box, kind, sizes, 2, 2)
                there = plain_turned_by(kind, machine, *turn_by_dice(box, kind, sum(sizes)))
                self.assertEqual(rest_rule(kind, there), rest_rule(kind, machine))


class Rest(RuleCase):
    def check_rest(self, kind, machine):
        n, hands, sights = sizes_of(machine)
        answer = rest_rule(kind, machine)
        case = (kind, machine, answer)
        self.assertIs(type(answer), tuple, case)
        if len(steered_room(kind, machine)) < n:
            self.assertEqual(answer, rule_for(kind, machine, to_rest(kind, n)), case)
            self.assertEqual(answer[0], "fixed", case)
            return answer
        self.assertEqual((answer[0], len(answer)), ("rule", 2), case)
        self.assertTrue(rows_in_form(kind, answer[1], n) and len(answer[1]) == hands, case)
        runs_by = plain_ruled(kind, machine, answer[1])
        self.assertEqual(plain_great(kind, runs_by), to_rest(kind, n), case)
        self.assertEqual(plain_powers(kind, runs_by, n + 1)[n], [noughts(kind, n) for _ in range(n)], case)
        if hands == 1:
            self.assertEqual(answer, rule_for(kind, machine, to_rest(kind, n)), case)
        return answer

    def test_drawn_ones_ones_of_noughts_and_ones_in_parts(self):
        words = [self.check_rest(kind, machine)[0] for kind, machine in machines_of("rest")]
        self.assertGreater(words.count("rule"), 100)
        self.assertGreater(words.count("fixed"), 100)

    def test_each_standing_comes_to_nought_in_at_most_n_turns(self):
        box = dice("coming to rest")
        for machines in (whole_machines("rests"), split_machines("split rests")):
            for kind, machine in machines:
                n = len(machine[0])
                runs_by = plain_ruled(kind, machine, self.check_rest(kind, machine)[1])
                standing = row_by_dice(box, kind, n)
                for _ in range(n):
                    standing = plain_image(kind, runs_by, standing)
                self.assertEqual(standing, noughts(kind, n), (kind, machine))

    def test_fixed_even_if_the_machine_comes_to_rest_alone(self):
        for kind in KINDS:
            for sizes in ((0, 0, 1, 0), (0, 1, 0, 1), (1, 1, 1, 1), (0, 2, 3, 0), (0, 0, 0, 5)):
                machine = chain_machine(kind, sizes)
                still = plain_powers(kind, machine[0], sum(sizes) + 1)[-1]
                self.assertEqual(still, [noughts(kind, sum(sizes)) for _ in still])
                self.assertEqual(rest_rule(kind, machine), ("fixed", to_rest(kind, sizes[2] + sizes[3])))
            self.assertEqual(rest_rule(kind, nought_machine(kind, 3, 2, 1)), ("fixed", to_rest(kind, 3)))

    def test_what_is_not_steered_may_run_for_ever(self):
        for kind in KINDS:
            machine = (unit_table(kind, 3), table_of(kind, (1,), (0,), (0,)), table_of(kind, (1, 0, 0)))
            wanted = poly_product(kind, row_of(kind, -1, 1), row_of(kind, -1, 1))
            self.assertEqual(rest_rule(kind, machine), ("fixed", wanted))


if __name__ == "__main__":
    unittest.main()

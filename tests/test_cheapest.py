"""[22] The cheapest inputs, by fractions."""

import unittest
from fractions import Fraction

from steermill.cheapest import cheapest
from steermill.parts import core
from steermill.steering import steer
from tests.helper import (chain_machine, columns_of, combined, dice, dot, in_form, machine_by_dice, machines_of,
                          nought_machine, noughts, plain, plain_end, plain_kernel, plain_turned_by, pushed_columns,
                          resting, row_by_dice, row_of, rows_in_form, sizes_of, table_by_dice, table_of, turn_by_dice,
                          unit_table, whole_by_dice)


def cut(row, hands):
    """Inputs, a list for each turn, of a list of all their numbers."""
    return [row[place:place + hands] for place in range(0, len(row), hands)]


def strung(rows):
    return [x for row in rows for x in row]


def squares(inputs):
    return sum((plain(0, x) ** 2 for x in strung(inputs)), Fraction(0))


def idle_inputs(machine, turns):
    """Inputs that lead nought to nought in so many turns, of which all such are sums of multiples."""
    n, hands, sights = sizes_of(machine)
    width = turns * hands
    led_to = [plain_end(0, machine, noughts(0, n), cut(row, hands)) for row in unit_table(0, width)]
    return plain_kernel(0, columns_of(led_to), width) if width else []


class CheapestCase(unittest.TestCase):
    def check(self, machine, start, goal, turns):
        """Holds what is told against all other inputs, and tells which word it was."""
        case = (machine, start, goal, turns)
        answer = cheapest(machine, start, goal, turns)
        self.assertIs(type(answer), tuple, case)
        self.assertEqual(answer[0], steer(0, machine, start, goal, turns)[0], case)
        if answer[0] == "inputs":
            self.check_inputs(machine, start, goal, turns, answer)
        else:
            self.check_never(machine, start, goal, turns, answer)
        return answer[0]

    def check_inputs(self, machine, start, goal, turns, answer):
        case = (machine, start, goal, turns)
        n, hands, sights = sizes_of(machine)
        self.assertEqual(len(answer), 3, case)
        word, us, cost = answer
        self.assertEqual(len(us), turns, case)
        self.assertTrue(rows_in_form(0, us, hands), case)
        self.assertEqual(plain_end(0, machine, start, us), goal, case)
        self.assertTrue(in_form(0, cost), case)
        self.assertEqual(plain(0, cost), squares(us), case)
        idle = idle_inputs(machine, turns)
        # Against all that leads nought to nought: only so no sum of these could be put to it that makes it cheaper.
        for row in idle:
            self.assertEqual(dot(0, strung(us), row), (0, 1), case)
        box = dice("others")
        for _ in range(3 if idle else 0):
            factors = row_by_dice(box, 0, len(idle))
            factors[box.randrange(len(idle))] = (1, box.randint(1, 50))
            other = cut(combined(0, [(1, 1)] + factors, [strung(us)] + idle, turns * hands), hands)
            self.assertEqual(plain_end(0, machine, start, other), goal, case)
            self.assertNotEqual(other, us, case)
            self.assertGreater(squares(other), plain(0, cost), case)

    def check_never(self, machine, start, goal, turns, answer):
        case = (machine, start, goal, turns)
        self.assertEqual(len(answer), 2, case)
        z = answer[1]
        self.assertTrue(rows_in_form(0, [z], len(machine[0])), case)
        for column in pushed_columns(0, machine, turns):
            self.assertEqual(dot(0, z, column), (0, 1), case)
        came_to = plain_end(0, machine, start, resting(0, machine, turns))
        self.assertNotEqual(dot(0, z, goal), dot(0, z, came_to), case)


class Cheapest(CheapestCase):
    def test_to_any_goal(self):
        box = dice("any goals")
        words = []
        for kind, machine in machines_of("cheapest", (0,)):
            n = len(machine[0])
            for turns in (0, 1, 2, n, n + 2):
                start, goal = row_by_dice(box, 0, n), row_by_dice(box, 0, n)
                words.append((turns > 0, self.check(machine, start, goal, turns)))
        for word in ((False, "never"), (True, "inputs"), (True, "never")):
            self.assertGreater(words.count(word), 5, word)

    def test_to_goals_that_inputs_led_to(self):
        box = dice("led goals")
        for kind, machine in machines_of("cheapest led", (0,)):
            n, hands, sights = sizes_of(machine)
            for turns in (0, 1, 2, n, n + 3):
                start = row_by_dice(box, 0, n)
                inputs = table_by_dice(box, 0, turns, hands)
                goal = plain_end(0, machine, start, inputs)
                self.assertEqual(self.check(machine, start, goal, turns), "inputs")
                self.assertLessEqual(plain(0, cheapest(machine, start, goal, turns)[2]), squares(inputs))

    def test_no_turns(self):
        box = dice("no turns")
        for n in range(1, 6):
            machine = machine_by_dice(box, 0, n, 1 + n % 3, 1)
            start = row_by_dice(box, 0, n)
            self.assertEqual(cheapest(machine, start, list(start), 0), ("inputs", [], (0, 1)))
            goal = list(start)
            goal[-1] = (goal[-1][0] + goal[-1][1], goal[-1][1])
            self.assertEqual(self.check(machine, start, goal, 0), "never")

    def test_where_nothing_need_be_put_in(self):
        box = dice("nothing put in")
        for kind, machine in machines_of("drifting", (0,)):
            n, hands, sights = sizes_of(machine)
            start = row_by_dice(box, 0, n)
            for turns in (0, 1, 4):
                idle = resting(0, machine, turns)
                goal = plain_end(0, machine, start, idle)
                self.assertEqual(cheapest(machine, start, goal, turns), ("inputs", idle, (0, 1)))

    def test_known_inputs(self):
        sums = (table_of(0, (1,)), table_of(0, (1,)), table_of(0, (1,)))
        for turns in (1, 2, 3, 15):
            share = Fraction(7, 2) / turns
            self.assertEqual(cheapest(sums, row_of(0, 0), row_of(0, Fraction(7, 2)), turns),
                             ("inputs", [row_of(0, share)] * turns, row_of(0, share ** 2 * turns)[0]))
        # An early input counts twice for each turn behind it, so that more of it is put in early.
        doubles = (table_of(0, (2,)), table_of(0, (1,)), table_of(0, (1,)))
        self.assertEqual(cheapest(doubles, row_of(0, 0), row_of(0, 21), 3),
                         ("inputs", table_of(0, (4,), (2,), (1,)), (21, 1)))
        # Of two hands the stronger one takes the more.
        hands = (table_of(0, (0,)), table_of(0, (3, 4)), table_of(0, (1,)))
        self.assertEqual(cheapest(hands, row_of(0, 9), row_of(0, 5), 1),
                         ("inputs", table_of(0, (Fraction(3, 5), Fraction(4, 5))), (1, 1)))
        self.assertEqual(cheapest(hands, row_of(0, 9), row_of(0, 5), 3),
                         ("inputs", table_of(0, (0, 0), (0, 0), (Fraction(3, 5), Fraction(4, 5))), (1, 1)))

    def test_of_noughts(self):
        machine = nought_machine(0, 3, 2, 1)
        some, nought = row_of(0, 1, 0, 0), noughts(0, 3)
        for turns in (1, 2, 15):
            self.assertEqual(cheapest(machine, some, nought, turns), ("inputs", resting(0, machine, turns), (0, 1)))
            self.assertEqual(self.check(machine, some, some, turns), "never")
        self.assertEqual(cheapest(machine, some, list(some), 0), ("inputs", [], (0, 1)))

    def test_parts_that_no_hand_moves(self):
        box = dice("unmoved")
        for sizes in ((1, 1, 1, 1), (0, 2, 1, 0), (2, 0, 0, 1)):
            machine = plain_turned_by(0, chain_machine(0, sizes), *turn_by_dice(box, 0, sum(sizes)))
            start = row_by_dice(box, 0, sum(sizes))
            for turns in (1, 3, 6):
                goal = plain_end(0, machine, start, table_by_dice(box, 0, turns, 1))
                self.assertEqual(self.check(machine, start, goal, turns), "inputs")
                self.assertEqual(self.check(machine, start, row_by_dice(box, 0, sum(sizes)), turns), "never")

    def test_fifteen_turns(self):
        box = dice("fifteen turns")
        for n, hands in ((1, 1), (2, 3), (3, 2), (5, 1), (5, 3)):
            machine = whole_by_dice(box, 0, n, hands, 1)
            start, goal = row_by_dice(box, 0, n), row_by_dice(box, 0, n)
            self.assertEqual(self.check(machine, start, goal, 15), "inputs")

    def test_long_numbers(self):
        box = dice("long goals")
        words = []
        for n, hands, turns in ((2, 1, 15), (3, 2, 4), (5, 1, 6), (4, 2, 5)):
            machine = machine_by_dice(box, 0, n, hands, 1, 6)
            start, goal = row_by_dice(box, 0, n, 60), row_by_dice(box, 0, n, 60)
            words.append(self.check(machine, start, goal, turns))
        self.assertIn("inputs", words)
        turned = plain_turned_by(0, chain_machine(0, (1, 2, 1, 1)), *turn_by_dice(box, 0, 5, 6))
        start = row_by_dice(box, 0, 5, 60)
        self.assertEqual(self.check(turned, start, row_by_dice(box, 0, 5, 60), 7), "never")
        goal = plain_end(0, turned, start, table_by_dice(box, 0, 7, 1))
        self.assertEqual(self.check(turned, start, goal, 7), "inputs")
        inner = core(0, turned)[1]
        self.assertEqual(self.check(inner, row_by_dice(box, 0, 2, 60), row_by_dice(box, 0, 2, 60), 4), "inputs")


if __name__ == "__main__":
    unittest.main()

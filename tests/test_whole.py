"""[3] The whole promise: machines put through all of it, what is told of each held beside the others."""

import unittest

from steermill.cheapest import cheapest
from steermill.desk import Desk
from steermill.joins import behind, beside, ring
from steermill.least import compared, read_off
from steermill.machines import marks, next_of, run, seen_of, turned_by
from steermill.parts import core, parting
from steermill.polys import great
from steermill.rooms import joined, lies_in, met
from steermill.rules import rest_rule, rule_for
from steermill.seeing import standings, told_apart, unseen_room
from steermill.steering import fewest, steer, steered_room
from steermill.tables import image
from steermill.texts import show_table
from steermill.watchers import put_together, watcher_for
from tests.helper import (KINDS, chain_machine, combined, dice, dot, in_corners, machine_by_dice, noughts,
                          parted_by_dice, plain, plain_end, plain_image, plain_less, plain_powers, plain_product,
                          plain_ruled, plain_sum, plain_table_sum, plain_turned_by, plain_watched, poly_by_dice,
                          poly_product, poly_rest, pushed_columns, resting, row_by_dice, rule_by_dice, sizes_of,
                          table_by_dice, to_rest, told, turn_by_dice, unit_table, watcher_by_dice, whole_by_dice)

SIZES = ((1, 2, 1, 1), (0, 3, 1, 0), (1, 1, 0, 2), (0, 2, 0, 0), (2, 0, 1, 1), (1, 3, 1, 0))


def machines():
    """Pairs of a kind and a machine: with all four parts, with some of them, and steered and seen in whole."""
    box = dice("whole")
    for kind in KINDS:
        for sizes in SIZES:
            yield kind, plain_turned_by(kind, chain_machine(kind, sizes), *turn_by_dice(box, kind, sum(sizes)))
            yield kind, parted_by_dice(box, kind, sizes, box.randint(1, 3), box.randint(1, 3))
        for n, hands, sights in ((1, 1, 1), (3, 1, 1), (3, 2, 2), (4, 1, 2), (5, 2, 1)):
            yield kind, whole_by_dice(box, kind, n, hands, sights)
            yield kind, machine_by_dice(box, kind, n, hands, sights)


def cores():
    """Pairs of a kind and the core of one of these machines, where it has numbers."""
    for kind, machine in machines():
        found = core(kind, machine)
        if found[0] == "core":
            yield kind, found[1]


class Steered(unittest.TestCase):
    def test_the_room_is_where_inputs_lead_in_as_many_turns_as_numbers(self):
        box = dice("whole steered")
        for kind, machine in machines():
            n, hands, sights = sizes_of(machine)
            room, nought = steered_room(kind, machine), noughts(kind, n)
            goals = room + [combined(kind, row_by_dice(box, kind, len(room)), room, n)]
            for goal in goals:
                turns = fewest(kind, machine, nought, goal, n)
                word, us = steer(kind, machine, nought, goal, turns)
                self.assertEqual((word, plain_end(kind, machine, nought, us)), ("inputs", goal))
            led_to = plain_end(kind, machine, nought, table_by_dice(box, kind, n + 3, hands))
            self.assertTrue(lies_in(kind, room, led_to))

    def test_inputs_or_a_row_that_goes_against_them(self):
        box = dice("whole ways")
        words = []
        for kind, machine in machines():
            n, hands, sights = sizes_of(machine)
            start, goal = row_by_dice(box, kind, n), row_by_dice(box, kind, n)
            for turns in (0, 1, n, n + 2):
                word, found = steer(kind, machine, start, goal, turns)
                words.append(word)
                idle = plain_end(kind, machine, start, resting(kind, machine, turns))
                if word == "inputs":
                    self.assertEqual(plain_end(kind, machine, start, found), goal)
                    self.assertLessEqual(fewest(kind, machine, start, goal, turns), turns)
                else:
                    for column in pushed_columns(kind, machine, turns):
                        self.assertEqual(dot(kind, found, column), told(kind, 0))
                    self.assertNotEqual(dot(kind, found, goal), dot(kind, found, idle))
                if turns >= n:
                    self.assertEqual(word == "inputs",
                                     lies_in(kind, steered_room(kind, machine), plain_less(kind, goal, idle)))
        self.assertGreater(min(words.count("inputs"), words.count("never")), 50)

    def test_none_is_cheaper_than_the_cheapest(self):
        box = dice("whole costs")
        for kind, machine in machines():
            if kind == 0:
                n, hands, sights = sizes_of(machine)
                start, inputs = row_by_dice(box, 0, n), table_by_dice(box, 0, n + 2, hands)
                goal = plain_end(0, machine, start, inputs)
                word, us, cost = cheapest(machine, start, goal, n + 2)
                self.assertEqual(plain_end(0, machine, start, us), goal)
                for others in (inputs, steer(0, machine, start, goal, n + 2)[1]):
                    squares = sum(plain(0, x) ** 2 for row in others for x in row)
                    self.assertTrue(others == us or squares > plain(0, cost))


class Seen(unittest.TestCase):
    def test_alike_for_ever_just_where_the_difference_is_unseen(self):
        box = dice("whole seen")
        for kind, machine in machines():
            n, hands, sights = sizes_of(machine)
            room = unseen_room(kind, machine)
            one, inputs = row_by_dice(box, kind, n), table_by_dice(box, kind, n + 3, hands)
            hidden = plain_sum(kind, one, combined(kind, row_by_dice(box, kind, len(room)), room, n))
            for other in (hidden, row_by_dice(box, kind, n)):
                here, there = run(kind, machine, one, inputs), run(kind, machine, other, inputs)
                found = told_apart(kind, machine, one, other)
                if lies_in(kind, room, plain_less(kind, one, other)):
                    self.assertEqual((found, here), (("alike",), there))
                else:
                    differ = [k for k in range(n) if here[k] != there[k]]
                    self.assertEqual(found, ("apart", differ[0]))

    def test_the_standing_is_told_up_to_what_is_unseen(self):
        box = dice("whole standings")
        for kind, machine in machines():
            n = len(machine[0])
            start, room = row_by_dice(box, kind, n), unseen_room(kind, machine)
            seen = run(kind, machine, start, resting(kind, machine, n))
            word, x, differences = standings(kind, machine, seen)
            self.assertEqual((word, differences), ("standing", room))
            self.assertTrue(lies_in(kind, room, plain_less(kind, x, start)))


class Parted(unittest.TestCase):
    def test_in_four_by_what_is_steered_and_unseen(self):
        for kind, machine in machines():
            T, S, (a, b, c, d) = parting(kind, machine)
            n, steered, unseen = len(machine[0]), steered_room(kind, machine), unseen_room(kind, machine)
            self.assertEqual((a + b, a + c, a), (len(steered), len(unseen), len(met(kind, n, steered, unseen))))
            self.assertEqual(a + b + c, len(joined(kind, steered, unseen)))
            there = turned_by(kind, machine, T, S)
            self.assertEqual(steered_room(kind, there), unit_table(kind, n)[:a + b])
            self.assertEqual(unseen_room(kind, there), unit_table(kind, n)[:a] + unit_table(kind, n)[a + b:a + b + c])
            self.assertEqual(marks(kind, there, 2 * n), marks(kind, machine, 2 * n))

    def test_answers_hang_on_the_core_alone(self):
        box = dice("whole cores")
        for kind, machine in machines():
            n, hands, sights = sizes_of(machine)
            inputs = table_by_dice(box, kind, 2 * n, hands)
            answers = run(kind, machine, noughts(kind, n), inputs)
            found = core(kind, machine)
            if found[0] == "none":
                self.assertEqual(answers, [noughts(kind, sights)] * (2 * n + 1))
                self.assertEqual(read_off(kind, marks(kind, machine, 2 * n)), ("nought",))
            else:
                self.assertEqual(run(kind, found[1], noughts(kind, len(found[1][0])), inputs), answers)
                self.assertNotEqual(compared(kind, machine, found[1])[0], "apart")


class Ruled(unittest.TestCase):
    def test_a_rule_for_every_wish_where_all_is_steered(self):
        box = dice("whole rules")
        for kind, machine in machines():
            n, hands, sights = sizes_of(machine)
            wished, steered = poly_by_dice(box, kind, n), len(steered_room(kind, machine))
            word, found = rule_for(kind, machine, wished)
            self.assertEqual(word, "rule" if steered == n else "fixed")
            if word == "rule":
                self.assertEqual(great(kind, plain_ruled(kind, machine, found)), wished)
                if hands == 1:
                    # With one hand a rule is known by its polynomial.
                    F = rule_by_dice(box, kind, machine)
                    by_it = great(kind, plain_ruled(kind, machine, F))
                    self.assertEqual(rule_for(kind, machine, by_it), ("rule", F))
            else:
                self.assertEqual(len(found), n - steered + 1)
                by_any = great(kind, plain_ruled(kind, machine, rule_by_dice(box, kind, machine)))
                self.assertEqual(poly_rest(kind, by_any, found), [])

    def test_by_the_rule_to_rest_all_comes_to_nought(self):
        box = dice("whole rests")
        for kind, machine in cores():
            n = len(machine[0])
            F = rest_rule(kind, machine)[1]
            x = row_by_dice(box, kind, n)
            for _ in range(n):
                x = next_of(kind, machine, x, image(kind, F, x))
            self.assertEqual(x, noughts(kind, n))


class Watched(unittest.TestCase):
    def test_a_watcher_for_every_wish_where_all_is_seen(self):
        box = dice("whole watchers")
        for kind, machine in machines():
            n, unseen = len(machine[0]), len(unseen_room(kind, machine))
            wished = poly_by_dice(box, kind, n)
            word, found = watcher_for(kind, machine, wished)
            self.assertEqual(word, "fixed" if unseen else "watcher")
            if word == "watcher":
                self.assertEqual(great(kind, plain_watched(kind, machine, found)), wished)
            else:
                self.assertEqual(len(found), unseen + 1)
                by_any = great(kind, plain_watched(kind, machine, watcher_by_dice(box, kind, machine)))
                self.assertEqual(poly_rest(kind, by_any, found), [])

    def test_put_together_both_run_as_they_do_apart(self):
        box = dice("whole together")
        for kind, machine in cores():
            n = len(machine[0])
            wishes = poly_by_dice(box, kind, n), poly_by_dice(box, kind, n)
            F, L = rule_for(kind, machine, wishes[0])[1], watcher_for(kind, machine, wishes[1])[1]
            table = put_together(kind, machine, F, L)
            self.assertEqual(great(kind, table), poly_product(kind, *wishes))
            x, g = row_by_dice(box, kind, n), row_by_dice(box, kind, n)
            for _ in range(3):
                led_to = image(kind, table, x + g)
                missed = plain_less(kind, g, x)
                put_in = plain_image(kind, F, g)
                off = plain_less(kind, seen_of(kind, machine, g), seen_of(kind, machine, x))
                x, g = (next_of(kind, machine, x, put_in),
                        plain_sum(kind, next_of(kind, machine, g, put_in), plain_image(kind, L, off)))
                self.assertEqual(led_to, x + g)
                self.assertEqual(plain_less(kind, g, x), plain_image(kind, plain_watched(kind, machine, L), missed))

    def test_by_rest_and_rest_all_comes_to_nought(self):
        for kind, machine in cores():
            n = len(machine[0])
            F, L = rest_rule(kind, machine)[1], watcher_for(kind, machine, to_rest(kind, n))[1]
            table = put_together(kind, machine, F, L)
            self.assertEqual(plain_product(kind, plain_powers(kind, table, 2 * n)[-1], table),
                             [noughts(kind, 2 * n)] * (2 * n))


class ReadOff(unittest.TestCase):
    def test_the_least_machine_differs_from_the_core_by_just_one_turn(self):
        for kind, machine in machines():
            n = len(machine[0])
            found, inner = read_off(kind, marks(kind, machine, 2 * n)), core(kind, machine)
            if inner[0] == "none":
                self.assertEqual(found, ("nought",))
                continue
            least, size = found[1:], len(inner[1][0])
            self.assertEqual((found[0], sizes_of(least)), ("machine", sizes_of(inner[1])))
            word, T, S = compared(kind, inner[1], least)
            self.assertEqual(word, "turn")
            self.assertEqual(turned_by(kind, inner[1], T, S), least)
            # None smaller has the marks.
            if size > 1:
                fewer = read_off(kind, marks(kind, machine, 2 * size - 2))
                self.assertTrue(fewer[0] != "machine" or compared(kind, fewer[1:], least)[0] == "apart")

    def test_a_turn_and_its_way_back(self):
        box = dice("whole turns")
        for kind, machine in cores():
            n = len(machine[0])
            T, S = turn_by_dice(box, kind, n)
            there = turned_by(kind, machine, T, S)
            self.assertEqual(compared(kind, machine, there), ("turn", T, S))
            self.assertEqual(compared(kind, there, machine), ("turn", S, T))


class Joined(unittest.TestCase):
    def test_beside(self):
        box = dice("whole beside")
        for kind, machine in machines():
            n, hands, sights = sizes_of(machine)
            other = machine_by_dice(box, kind, 3, hands, sights)
            both = beside(kind, machine, other)
            self.assertEqual(both[0], in_corners(kind, machine[0], other[0]))
            x, y, inputs = row_by_dice(box, kind, n), row_by_dice(box, kind, 3), table_by_dice(box, kind, 4, hands)
            self.assertEqual(run(kind, both, x + y, inputs), plain_table_sum(
                kind, run(kind, machine, x, inputs), run(kind, other, y, inputs)))
            # What the machine answers is its core's affair, beside another one too.
            inner = core(kind, machine)
            if inner[0] == "core":
                self.assertNotEqual(compared(kind, both, beside(kind, other, inner[1]))[0], "apart")

    def test_behind(self):
        box = dice("whole behind")
        for kind, machine in machines():
            n, hands, sights = sizes_of(machine)
            other = machine_by_dice(box, kind, 2, sights, 1)
            both = behind(kind, machine, other)
            self.assertEqual(great(kind, both[0]), poly_product(kind, great(kind, machine[0]), great(kind, other[0])))
            x, y, inputs = row_by_dice(box, kind, n), row_by_dice(box, kind, 2), table_by_dice(box, kind, 4, hands)
            self.assertEqual(run(kind, both, x + y, inputs), run(kind, other, y, run(kind, machine, x, inputs)[:-1]))
            inner = core(kind, machine)
            if inner[0] == "core":
                self.assertNotEqual(compared(kind, both, behind(kind, inner[1], other))[0], "apart")

    def test_ring(self):
        box = dice("whole rings")
        for kind, machine in machines():
            n, hands, sights = sizes_of(machine)
            if hands != sights:
                continue
            closed = ring(kind, machine)
            self.assertEqual(closed[0], plain_ruled(kind, machine, machine[2]))
            self.assertEqual(steered_room(kind, closed), steered_room(kind, machine))
            self.assertEqual(unseen_room(kind, closed), unseen_room(kind, machine))
            x, inputs = row_by_dice(box, kind, n), table_by_dice(box, kind, 4, hands)
            seen = run(kind, closed, x, inputs)
            added = [plain_sum(kind, put_in, answer) for put_in, answer in zip(inputs, seen)]
            self.assertEqual(run(kind, machine, x, added), seen)


class AtTheDesk(unittest.TestCase):
    def test_the_desk_tells_what_the_functions_tell(self):
        box = dice("whole desks")
        for kind in KINDS:
            for sizes in SIZES:
                machine = parted_by_dice(box, kind, sizes, 2, 1)
                desk = Desk()
                desk.say(f"kind {kind}")
                desk.say("machine m " + " | ".join(show_table(kind, table) for table in machine))
                self.assertEqual(desk.say("steered m"), str(len(steered_room(kind, machine))))
                self.assertEqual(desk.say("unseen m"), str(len(unseen_room(kind, machine))))
                start, inputs = row_by_dice(box, kind, sum(sizes)), table_by_dice(box, kind, 3, 2)
                self.assertEqual(desk.say(f"run m {show_table(kind, [start])} | {show_table(kind, inputs)}"),
                                 show_table(kind, run(kind, machine, start, inputs)))
                word, found = rest_rule(kind, machine)
                self.assertEqual(desk.say("rest m") == "never", word == "fixed")
                inner = core(kind, machine)
                self.assertEqual(desk.say("core c m"), "ok" if inner[0] == "core" else "nothing")
                if inner[0] == "core":
                    self.assertEqual(desk.say("alike c m"), "yes")
                    self.assertEqual(desk.say("steered c"), str(len(inner[1][0])))


if __name__ == "__main__":
    unittest.main()

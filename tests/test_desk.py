"""[24] The desk: the rows that it knows, and its answers."""

import unittest

from steermill.desk import Desk
from steermill.errors import NoName, NoText
from tests.helper import (KINDS, PRIMES, chain_machine, dice, machine_by_dice, machine_text, machines_of,
                          nought_machine, noughts, plain_great, plain_marks, plain_ruled, plain_run, plain_sum,
                          plain_text, plain_turned_by, row_by_dice, rows_in_form, sizes_of, table_by_dice, to_rest,
                          told, turn_by_dice, unit_table, wanted_sizes, whole_by_dice)

# Two numbers, one hand, one sight: steered and seen in whole.
PUSHED = "1 1; 0 1 | 0; 1 | 1 0"
BLIND = "1 0; 1 1 | 0; 1 | 1 0"
LONG = "12345678901234567891"


def desk_with(kind, **machines):
    """A desk of the kind that knows these machines, told by their texts."""
    desk = Desk()
    desk.say(f"kind {kind}")
    for name, text in machines.items():
        desk.say(f"machine {name} {text}")
    return desk


class DeskCase(unittest.TestCase):
    def answers(self, desk, *pairs):
        for row, answer in pairs:
            found = desk.say(row)
            self.assertIs(type(found), str, row)
            self.assertEqual(found, answer, row)

    def refuse(self, desk, error, *rows):
        for row in rows:
            with self.assertRaises(error, msg=row):
                desk.say(row)


def desk_machines(name, kinds=KINDS):
    """Machines whose numbers have at most twenty figures a piece."""
    for kind, machine in machines_of(name, kinds):
        if kind != 0 or all(abs(part) < 10 ** 20 for table in machine for row in table for x in row for part in x):
            yield kind, machine


def plain_table(kind, text):
    """What a text tells, however many figures it has."""
    def number(word):
        top, stroke, bottom = word.partition("/")
        return (int(top), int(bottom or 1)) if kind == 0 else int(word)
    return [[number(word) for word in row.split(" ")] for row in text.split("; ")]


class AtFirst(DeskCase):
    def test_fractions(self):
        self.answers(Desk(), ("machine a -1/2 | 22/7 | 1", "ok"), ("run a 1/3 | 1", "1/3; 125/42"))
        self.refuse(Desk(), NoText, "machine a 2/4 | 1 | 1")

    def test_no_machines(self):
        for name in ("a", "z", "kind", "machine"):
            self.refuse(Desk(), NoName, f"steered {name}", f"unseen {name}", f"rest {name}", f"core a {name}",
                        f"core {name} {name}", f"alike {name} {name}", f"run {name} 1 | 1")

    def test_two_desks_know_nothing_of_each_other(self):
        one, other = Desk(), Desk()
        self.answers(one, (f"machine a {PUSHED}", "ok"))
        self.refuse(other, NoName, "steered a")
        self.answers(other, ("kind 7", "ok"), ("machine a 6 | 1 | 1", "ok"), ("steered a", "1"))
        self.answers(one, ("steered a", "2"), ("machine b -1/2 | 1 | 1", "ok"))
        self.refuse(other, NoName, "steered b")
        self.refuse(Desk(), NoName, "steered a", "steered b")
        self.answers(one, ("kind 2", "ok"))
        self.answers(other, ("steered a", "1"), ("run a 2 | 3", "2; 1"))


class Kinds(DeskCase):
    def test_each_kind(self):
        self.assertEqual(len(PRIMES), 25)
        for prime in PRIMES:
            desk = Desk()
            self.answers(desk, (f"kind {prime}", "ok"), (f"machine a {prime - 1} | 1 | 1", "ok"),
                         ("run a 1 | 0; 0", f"1; {prime - 1}; 1"))
            self.refuse(desk, NoText, f"machine b {prime} | 1 | 1", "machine b -1 | 1 | 1", "machine b 1/2 | 1 | 1")
            self.answers(desk, ("kind 0", "ok"), ("machine a -1/2 | 1 | 1", "ok"), (f"kind {prime}", "ok"))
            self.refuse(desk, NoName, "steered a")

    def test_told_anew_all_machines_are_gone(self):
        for kind in KINDS:
            for other in (0, 2, 97, kind):
                desk = desk_with(kind, a=PUSHED, b=PUSHED)
                self.answers(desk, ("steered a", "2"), ("steered b", "2"), (f"kind {other}", "ok"))
                self.refuse(desk, NoName, "steered a", "steered b", "alike a b", "core c a")
                self.answers(desk, ("machine a 1 | 1 | 1", "ok"), ("steered a", "1"))


class Machines(DeskCase):
    def test_steered_and_unseen(self):
        for kind, machine in desk_machines("desk"):
            a, b, c, d = wanted_sizes(kind, machine)
            desk = desk_with(kind, m=machine_text(kind, machine))
            self.answers(desk, ("steered m", str(a + b)), ("unseen m", str(a + c)))

    def test_known_answers(self):
        for kind, rule in ((0, "-1 -2"), (2, "1 0"), (7, "6 5"), (97, "96 95")):
            desk = desk_with(kind, pushed=PUSHED, blind=BLIND)
            self.answers(desk, ("steered pushed", "2"), ("unseen pushed", "0"), ("rest pushed", rule),
                         ("steered blind", "1"), ("unseen blind", "1"), ("rest blind", "never"))

    def test_the_greatest_and_the_least_sizes(self):
        box = dice("desk sizes")
        for kind in KINDS:
            for n, hands, sights in ((1, 1, 1), (1, 3, 3), (5, 1, 1), (5, 3, 3), (5, 3, 1), (5, 1, 3)):
                machine = machine_by_dice(box, kind, n, hands, sights)
                self.answers(desk_with(kind), (f"machine m {machine_text(kind, machine)}", "ok"),
                             ("steered m", str(sum(wanted_sizes(kind, machine)[:2]))))

    def test_told_anew_by_the_same_name(self):
        for kind in KINDS:
            desk = desk_with(kind, a=PUSHED)
            self.answers(desk, ("steered a", "2"), ("machine a 1 | 1 1 | 1; 0; 1", "ok"), ("steered a", "1"),
                         ("run a 0 | 0 1", "0 0 0; 1 0 1"))

    def test_twenty_figures(self):
        whole = int(LONG)
        desk = desk_with(0, a=f"{LONG} | 1/{LONG} | -{LONG}")
        self.answers(desk, ("steered a", "1"), ("unseen a", "0"), ("rest a", f"-{whole ** 2}"),
                     (f"run a {LONG} | {LONG}", f"-{whole ** 2}; -{whole ** 3 + whole}"),
                     ("core b a", "ok"), ("alike a b", "yes"))

    def test_words_that_rows_begin_with_as_names(self):
        words = ("kind", "machine", "steered", "unseen", "rest", "core", "alike", "run")
        for kind in KINDS:
            desk = desk_with(kind)
            for word in words:
                self.refuse(desk, NoName, f"steered {word}")
                self.answers(desk, (f"machine {word} {PUSHED}", "ok"), (f"steered {word}", "2"),
                             (f"unseen {word}", "0"), (f"core {word} {word}", "ok"), (f"run {word} 1 0 | 0", "1; 1"))
            for word in words:
                self.answers(desk, (f"alike {word} core", "yes"), (f"alike alike {word}", "yes"),
                             (f"core core {word}", "ok"), (f"rest {word}", desk.say("rest rest")))

    def test_names_of_one_and_of_eight_letters(self):
        for kind in KINDS:
            desk = desk_with(kind)
            for name in list("abcdefghijklmnopqrstuvwxyz") + ["ab", "abcdefg", "abcdefgh", "zzzzzzzz", "ok", "never"]:
                self.answers(desk, (f"machine {name} 1 | 1 | 1", "ok"), (f"core {name} a", "ok"),
                             (f"steered {name}", "1"))
            self.refuse(desk, NoName, "steered abcdef", "steered aa", "steered zzzzzzz")

    def test_three_hundred_rows(self):
        for kind in (0, 2, 97):
            desk = desk_with(kind, a=machine_text(kind, chain_machine(kind, (1, 2, 1, 1))), b="1 | 1 | 1")
            # Each round takes the core of the last one's core.
            for _ in range(37):
                self.answers(desk, ("core b a", "ok"), ("core a b", "ok"), ("alike a b", "yes"), ("steered a", "2"),
                             ("unseen b", "0"), ("run a 0 0 | 1; 0", "0 0; 0 0; 1 0"), ("machine c 1 | 1 | 1", "ok"),
                             ("alike b c", "no"))


class Rests(DeskCase):
    def check(self, kind, machine):
        n, hands, sights = sizes_of(machine)
        text = desk_with(kind, m=machine_text(kind, machine)).say("rest m")
        if sum(wanted_sizes(kind, machine)[:2]) < n:
            self.assertEqual(text, "never", (kind, machine))
            return "never"
        F = plain_table(kind, text)
        self.assertEqual(text, plain_text(kind, F), (kind, machine))
        self.assertEqual(len(F), hands, (kind, machine))
        self.assertTrue(rows_in_form(kind, F, n), (kind, machine))
        self.assertEqual(plain_great(kind, plain_ruled(kind, machine, F)), to_rest(kind, n), (kind, machine))
        return "rule"

    def test_the_rule_brings_the_machine_to_rest(self):
        words = [self.check(kind, machine) for kind, machine in desk_machines("desk rests")]
        self.assertGreater(words.count("rule"), 50)
        self.assertGreater(words.count("never"), 50)

    def test_never_though_some_rule_would_do(self):
        # The number that no hand moves comes to nought by itself.
        for kind in KINDS:
            self.answers(desk_with(kind, a="1 0; 0 0 | 1; 0 | 1 1"), ("steered a", "1"), ("rest a", "never"))

    def test_more_figures_than_texts_let_in(self):
        box = dice("long rests")
        words = [self.check(0, machine_by_dice(box, 0, n, hands, 1, 20)) for n, hands in ((2, 1), (2, 2), (3, 2)) * 4]
        self.assertGreater(words.count("rule"), 6)


class Cores(DeskCase):
    def test_to_a_new_name(self):
        for kind in KINDS:
            for sizes in ((1, 2, 1, 1), (0, 3, 0, 0), (2, 1, 0, 1), (0, 5, 0, 0)):
                desk = desk_with(kind, m=machine_text(kind, chain_machine(kind, sizes)))
                self.answers(desk, ("core new m", "ok"), ("steered new", str(sizes[1])), ("unseen new", "0"),
                             ("alike new m", "yes"), ("alike m new", "yes"), ("steered m", str(sizes[0] + sizes[1])),
                             ("unseen m", str(sizes[0] + sizes[2])))
                # It has as many hands and sights, and just so many numbers.
                start = " ".join(["0"] * sizes[1])
                self.answers(desk, (f"run new {start} | 0; 0", "0 0; 0 0; 0 0"))
                self.refuse(desk, NoText, f"run new {start} 0 | 0; 0")

    def test_to_its_own_name(self):
        for kind in KINDS:
            desk = desk_with(kind, m=machine_text(kind, chain_machine(kind, (1, 2, 1, 1))))
            self.answers(desk, ("core old m", "ok"), ("core m m", "ok"), ("steered m", "2"), ("unseen m", "0"),
                         ("alike m old", "yes"), ("core m m", "ok"), ("steered m", "2"), ("steered old", "2"))

    def test_to_a_name_that_is_taken(self):
        for kind in KINDS:
            desk = desk_with(kind, m=machine_text(kind, chain_machine(kind, (1, 2, 1, 1))), a="1 | 1 | 1")
            self.answers(desk, ("core a m", "ok"), ("steered a", "2"), ("alike a m", "yes"), ("steered m", "3"))

    def test_of_a_machine_whose_core_has_no_numbers(self):
        for kind in KINDS:
            for sizes in ((2, 0, 1, 1), (0, 0, 2, 0), (3, 0, 0, 0), (0, 0, 0, 4)):
                text = machine_text(kind, chain_machine(kind, sizes))
                desk = desk_with(kind, m=text, same=text, other=PUSHED)
                self.answers(desk, ("core new m", "nothing"))
                self.refuse(desk, NoName, "steered new", "core x new", "run new 1 | 1", "alike new m")
                self.answers(desk, ("core other m", "nothing"), ("steered other", "2"), ("unseen other", "0"),
                             ("core m m", "nothing"), ("steered m", str(sizes[0])),
                             ("unseen m", str(sizes[0] + sizes[2])), ("alike m same", "yes"))

    def test_of_drawn_machines(self):
        words = []
        for kind, machine in desk_machines("desk cores"):
            desk = desk_with(kind, m=machine_text(kind, machine))
            size = wanted_sizes(kind, machine)[1]
            words.append("ok" if size else "nothing")
            self.answers(desk, ("core c m", words[-1]))
            if size:
                self.answers(desk, ("steered c", str(size)), ("unseen c", "0"), ("alike c m", "yes"))
        self.assertGreater(min(words.count(word) for word in ("ok", "nothing")), 50)

    def test_more_figures_than_texts_let_in(self):
        # Nothing is handed on from the last number to the others, of which alone something is seen.
        text = (f"{LONG} 3/{LONG} 0; 7 -{LONG}/11 0; {LONG} 5 1/{LONG} | 13/{LONG}; {LONG}/17; -{LONG}"
                f" | 19/{LONG} {LONG} 0")
        machine = tuple(plain_table(0, part) for part in text.split(" | "))
        self.assertEqual(machine_text(0, machine), text)
        desk = desk_with(0, m=text, old=text)
        self.answers(desk, ("unseen m", "1"), ("core m m", "ok"), ("steered m", "2"), ("unseen m", "0"),
                     ("alike m old", "yes"))
        inputs = table_by_dice(dice("long cores"), 0, 3, 1, 20)
        self.answers(desk, (f"run m 0 0 | {plain_text(0, inputs)}",
                            plain_text(0, plain_run(0, machine, noughts(0, 3), inputs))))


class Alike(DeskCase):
    def ask(self, kind, one, other):
        desk = desk_with(kind, one=machine_text(kind, one), other=machine_text(kind, other))
        answer = desk.say("alike one other")
        self.assertIn(answer, ("yes", "no"))
        self.answers(desk, ("alike other one", answer), ("alike one one", "yes"), ("alike other other", "yes"))
        return answer

    def test_against_all_marks(self):
        box = dice("desk pairs")
        for kind, one in desk_machines("desk alike", (0, 2, 3, 97)):
            n, hands, sights = sizes_of(one)
            other = machine_by_dice(box, kind, box.randint(1, 5), hands, sights)
            many = n + len(other[0])
            same = plain_marks(kind, one, many) == plain_marks(kind, other, many)
            self.assertEqual(self.ask(kind, one, other), "yes" if same else "no", (kind, one, other))

    def test_turned_machines(self):
        box = dice("desk turns")
        for kind in KINDS:
            one = whole_by_dice(box, kind, 2, 2, 1)
            there = plain_turned_by(kind, one, *turn_by_dice(box, kind, 2))
            self.assertEqual(self.ask(kind, one, there), "yes")
            off = (there[0], there[1], [plain_sum(kind, row, unit_table(kind, 2)[0]) for row in there[2]])
            same = plain_marks(kind, one, 4) == plain_marks(kind, off, 4)
            self.assertEqual(self.ask(kind, one, off), "yes" if same else "no")

    def test_unlike_hands_or_sights(self):
        box = dice("desk sights")
        for kind in KINDS:
            for one, other in (((2, 1, 1), (2, 2, 1)), ((2, 1, 1), (2, 1, 2)), ((3, 2, 2), (3, 1, 1)),
                               ((1, 3, 1), (1, 1, 3)), ((2, 2, 3), (4, 3, 2))):
                self.assertEqual(self.ask(kind, nought_machine(kind, *one), nought_machine(kind, *other)), "no")
                self.assertEqual(self.ask(kind, machine_by_dice(box, kind, *one), machine_by_dice(box, kind, *other)),
                                 "no")

    def test_of_noughts(self):
        for kind in KINDS:
            for n in (1, 2, 5):
                self.assertEqual(self.ask(kind, nought_machine(kind, n, 2, 3), nought_machine(kind, 3, 2, 3)), "yes")
                still = chain_machine(kind, (n, 0, 0, 0))
                self.assertEqual(self.ask(kind, still, nought_machine(kind, 1, 1, 2)), "yes")

    def test_marks_that_differ_late(self):
        for kind in KINDS:
            for n in range(1, 6):
                late = chain_machine(kind, (0, n, 0, 0))
                self.assertEqual(self.ask(kind, late, nought_machine(kind, 1, 1, 2)), "no")
                self.assertEqual(self.ask(kind, late, chain_machine(kind, (0, 5, 0, 0))), "yes" if n == 5 else "no")
            # Chains whose marks are the same up to the ninth: what comes out of the last is put into the first again.
            late, round_about = chain_machine(kind, (0, 5, 0, 0)), chain_machine(kind, (0, 5, 0, 0))
            round_about[0][0][4] = told(kind, 1)
            self.assertEqual(plain_marks(kind, late, 9), plain_marks(kind, round_about, 9))
            self.assertEqual(self.ask(kind, late, round_about), "no")


class Runs(DeskCase):
    def test_drawn_runs(self):
        box = dice("desk runs")
        for kind, machine in desk_machines("desk run"):
            n, hands, sights = sizes_of(machine)
            desk = desk_with(kind, m=machine_text(kind, machine))
            for turns in (1, 2, 5):
                start, inputs = row_by_dice(box, kind, n), table_by_dice(box, kind, turns, hands)
                row = f"run m {plain_text(kind, [start])} | {plain_text(kind, inputs)}"
                self.answers(desk, (row, plain_text(kind, plain_run(kind, machine, start, inputs))))

    def test_known_runs(self):
        desk = desk_with(0, a=PUSHED, b="1/2 | 1 -1/3 | 1; 2")
        self.answers(desk, ("run a 2 3 | 4", "2; 5"), ("run a 2 3 | 4; 0", "2; 5; 12"),
                     ("run b 1 | 0 0; 1 1", "1 2; 1/2 1; 11/12 11/6"))
        self.answers(desk_with(7, a=PUSHED), ("run a 2 3 | 4", "2; 5"), ("run a 2 3 | 4; 0", "2; 5; 5"))

    def test_twelve_rows_of_inputs(self):
        box = dice("desk turns")
        for kind in KINDS:
            machine = machine_by_dice(box, kind, 3, 2, 2)
            desk = desk_with(kind, m=machine_text(kind, machine))
            start, inputs = row_by_dice(box, kind, 3), table_by_dice(box, kind, 12, 2)
            wanted = plain_run(kind, machine, start, inputs)
            self.assertEqual(len(wanted), 13)
            self.answers(desk, (f"run m {plain_text(kind, [start])} | {plain_text(kind, inputs)}",
                                plain_text(kind, wanted)))
            self.refuse(desk, NoText,
                        f"run m {plain_text(kind, [start])} | {plain_text(kind, inputs + inputs[:1])}")

    def test_a_run_changes_nothing(self):
        for kind in KINDS:
            desk = desk_with(kind, a=PUSHED)
            for _ in range(3):
                self.answers(desk, ("run a 1 1 | 1; 0", desk.say("run a 1 1 | 1; 0")), ("steered a", "2"))


if __name__ == "__main__":
    unittest.main()

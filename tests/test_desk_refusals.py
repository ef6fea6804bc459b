"""[24] What the desk refuses, with what, in which order, and that it changes nothing."""

import unittest

from steermill.desk import Desk
from steermill.errors import NoName, NoRow, NoText
from tests.helper import KINDS, PRIMES
from tests.test_desk import DeskCase, desk_with

PUSHED = "1 1; 0 1 | 0; 1 | 1 0"
STILL = "1 | 0 | 1"
NOT_TEXTS = (None, 0, 1, True, 1.5, [], ["kind 0"], ("kind 0",), b"kind 0", {})
UNKNOWN = ("", " ", "  ", "|", "a", "hello", "ok", "kinds 0", "kin 0", "Kind 0", "KIND 0", " kind 0", "kind\t0",
           "kind\n0", "steered\na", "machinea 1 | 1 | 1", "Machine a 1 | 1 | 1", " steered a", "rule a", "next a", "0",
           "1 | 1 | 1", "steer a", "seen a", "parting a", "\u212aind 0", "quit")
COUNTS = ("kind", "kind 0 ", "kind  0", "kind 0 0", "kind 7 x", "kind  ",
          "steered", "steered a ", "steered  a", "steered a a", "steered  ",
          "unseen", "unseen a ", "unseen  a", "unseen a a", "unseen  ",
          "rest", "rest a ", "rest  a", "rest a a", "rest  ",
          "core", "core ", "core a", "core a a ", "core  a a", "core a  a", "core a a a", "core   ",
          "alike", "alike ", "alike a", "alike a a ", "alike  a a", "alike a  a", "alike a a a", "alike   ",
          "machine", "machine ", "machine a", "machine 1|1|1", "machine A",
          "run", "run ", "run a", "run gone", "run 1|1")
NO_NAMES = ("", "abcdefghi", "abcdefghijkl", "A", "aB", "Ab", "a1", "1", "a_b", "a-b", "a.", "|", "caf\u00e9", "a\n",
            "\na", "a\t", "\u0430", "~", "a;")
NO_KINDS = ("", "1", "4", "9", "91", "99", "100", "101", "103", "00", "02", "007", "-0", "-2", "-7", "+7", "7.0", "7/1",
            "x", "two", "kind", "2;", "7\n", "\t7", "|", "1000000000000000000007", "7" * 5000, "\u0667")
SIX = "; ".join(" ".join("1" if i == k else "0" for k in range(6)) for i in range(6))
NO_MACHINES = (
    # Not three texts.
    "", " ", "|", " | ", " |  | ", "1", "1 | 1", "1 | 1 | 1 | 1", "1 | 1 | 1 | ", " | 1 | 1 | 1", "1|1|1", "1 |1 | 1",
    "1| 1 | 1", "1 | 1 |1", "1 | 1 |", "| 1 | 1", "1 || 1 | 1", "1; 1; 1", "1 / 1 / 1", "a", "1 1 1",
    # Texts that tell none.
    "1 | 1 | ", " | 1 | 1", "1 |  | 1", "1  | 1 | 1", "1 |  1 | 1", "1 | 1 | 1 ", " 1 | 1 | 1", "1 | 1 | x",
    "x | 1 | 1", "1 | x | 1", "01 | 1 | 1", "1 | 1 | -0", "1 | 00 | 1", "1\n | 1 | 1", "1 | 1 | 1\n", "1\t| 1 | 1",
    "a | a | a", "1;1 | 1; 1 | 1 1", "1 0; 1 | 1; 1 | 1 1", "1 | 1 | 1/0", "1 | 1 | 123456789012345678901",
    # Tables of sizes that do not fit.
    "1 0 | 1 | 1", "1; 0 | 1; 1 | 1", "1 0; 0 1 | 1 | 1 0", "1 0; 0 1 | 1 0 | 1 0", "1 0; 0 1 | 1; 1; 1 | 1 0",
    "1 0; 0 1 | 1; 1 | 1", "1 0; 0 1 | 1; 1 | 1; 0", "1 0; 0 1 | 1; 1 | 1 0 0", "1 | 1; 1 | 1", "1 | 1 | 1 1",
    "1 0 0; 0 1 0 | 1; 1 | 1 0", "1 0 0; 0 1 0 | 1; 1 | 1 0 0", "1 0; 0 1; 1 1 | 1; 1; 1 | 1 0",
    # More numbers, hands or sights than there may be.
    "1 | 1 1 1 1 | 1", "1 | 1 | 1; 1; 1; 1", f"{SIX} | 1; 1; 1; 1; 1; 1 | 1 1 1 1 1 1")
# Of a machine of two numbers and one hand.
NO_RUNS = (
    "", " ", "|", " | ", "1 0", "1 0 | ", " | 1", "1 0 |", "| 1", "1 0|1", "1 0 |1", "1 0| 1", "1 0 | 1 | 1",
    "1 0 | 1 | ", "1 0  | 1", "1 0 |  1", "1 0 | 1 ", " 1 0 | 1", "x 0 | 1", "1 0 | x", "1 0 | 01", "1 -0 | 1",
    "1 0 | 1;1", "1 0 | 1; ", "1 0 | 1\n", "1 0\t| 1", "1 0 || 1", "1 0; 1",
    "1 | 1", "1 0 0 | 1", "1 0; 1 0 | 1", "1; 0 | 1", "1 0 | 1 0", "1 0 | 1 0; 1 0", "1 0 | 1; 1 0",
    "1 0 | " + "; ".join(["1"] * 13))


class Rows(DeskCase):
    def test_rows_that_no_desk_knows(self):
        for kind in KINDS:
            self.refuse(desk_with(kind, a=PUSHED), NoRow, *UNKNOWN)

    def test_what_is_no_text(self):
        for desk in (Desk(), desk_with(7, a=PUSHED)):
            self.refuse(desk, NoRow, *NOT_TEXTS)

    def test_too_few_words_or_too_many(self):
        for kind in KINDS:
            self.refuse(desk_with(kind, a=PUSHED), NoRow, *COUNTS)

    def test_ahead_of_names_and_texts(self):
        # No row of these has a name by which something stands, or a text that tells something.
        for desk in (Desk(), desk_with(2)):
            self.refuse(desk, NoRow, *COUNTS)
            self.refuse(desk, NoRow, "steered A B", "core A", "core A B C", "alike 1", "alike 1 2 3", "kind x y",
                        "rest 1 x | y", "unseen a | b", "machine A", "run A", "hello A x")


class Names(DeskCase):
    def test_what_is_no_name(self):
        for kind in KINDS:
            desk = desk_with(kind, a=PUSHED, still=STILL)
            for name in NO_NAMES:
                self.refuse(desk, NoName, f"machine {name} {PUSHED}", f"steered {name}", f"unseen {name}",
                            f"rest {name}", f"core {name} a", f"core a {name}", f"core {name} still",
                            f"core {name} {name}", f"alike {name} a", f"alike a {name}", f"alike {name} {name}",
                            f"run {name} 1 0 | 1")

    def test_names_by_which_nothing_stands(self):
        for kind in KINDS:
            desk = desk_with(kind, a=PUSHED)
            for name in ("b", "aa", "gone", "kind", "machine", "abcdefgh"):
                self.refuse(desk, NoName, f"steered {name}", f"unseen {name}", f"rest {name}", f"core a {name}",
                            f"core b {name}", f"core {name} {name}", f"alike {name} a", f"alike a {name}",
                            f"alike {name} {name}", f"run {name} 1 0 | 1")

    def test_a_new_one_need_not_stand(self):
        for kind in KINDS:
            desk = desk_with(kind)
            self.answers(desk, (f"machine a {PUSHED}", "ok"), ("core b a", "ok"), ("core b b", "ok"))

    def test_ahead_of_texts(self):
        for kind in KINDS:
            desk = desk_with(kind, a=PUSHED)
            for name in NO_NAMES:
                for text in NO_MACHINES[:5] + NO_MACHINES[-5:]:
                    self.refuse(desk, NoName, f"machine {name} {text}")
            for name in NO_NAMES + ("b", "gone"):
                for text in NO_RUNS[:5] + NO_RUNS[-5:]:
                    self.refuse(desk, NoName, f"run {name} {text}")


class Texts(DeskCase):
    def test_kinds(self):
        for kind in KINDS:
            desk = desk_with(kind, a=PUSHED)
            self.refuse(desk, NoText, *[f"kind {word}" for word in NO_KINDS])
            self.refuse(desk, NoText, *[f"kind {whole}" for whole in range(1, 130) if whole not in PRIMES])
            self.answers(desk, ("steered a", "2"))

    def test_machines(self):
        for kind in KINDS:
            desk = desk_with(kind, a=PUSHED)
            for text in NO_MACHINES:
                self.refuse(desk, NoText, f"machine b {text}", f"machine a {text}")

    def test_numbers_of_another_kind(self):
        for prime in (2, 7, 97):
            desk = desk_with(prime, a=PUSHED)
            self.refuse(desk, NoText, f"machine b {prime} | 1 | 1", "machine b 1 | -1 | 1", "machine b 1 | 1 | 1/2",
                        f"run a {prime} 0 | 1", "run a 1 0 | -1", "run a 1/2 0 | 1")
        self.refuse(desk_with(0, a=PUSHED), NoText, "machine b 2/4 | 1 | 1", "run a 3/1 0 | 1", "run a 1 0 | 0/2")

    def test_runs(self):
        for kind in KINDS:
            desk = desk_with(kind, a=PUSHED)
            for text in NO_RUNS:
                self.refuse(desk, NoText, f"run a {text}")
            self.answers(desk, ("run a 1 0 | 1", "1; 1"))


class Unchanged(DeskCase):
    def test_what_is_refused_changes_nothing(self):
        rows = (*UNKNOWN, *COUNTS, *NOT_TEXTS, *[f"kind {word}" for word in NO_KINDS],
                *[f"machine a {text}" for text in NO_MACHINES], *[f"machine new {text}" for text in NO_MACHINES],
                *[f"run a {text}" for text in NO_RUNS], *[f"machine {name} {STILL}" for name in NO_NAMES],
                *[f"core {name} still" for name in NO_NAMES], *[f"core {name} a" for name in NO_NAMES],
                "core a gone", "core new gone", "core still new", "machine A 1 | 1 | 1", "alike a new")
        for kind in KINDS:
            desk = desk_with(kind, a=PUSHED, still=STILL)
            known = [(row, desk.say(row)) for row in (
                "steered a", "unseen a", "rest a", "run a 1 0 | 1; 0; 1", "rest still", "unseen still", "alike a still",
                "run still 1 | 1; 1")]
            for row in rows:
                with self.assertRaises((NoRow, NoName, NoText), msg=row):
                    desk.say(row)
                self.refuse(desk, NoName, "steered new", "steered gone")
                self.answers(desk, *known)
            # The kind is what it was, too.
            self.answers(desk, ("machine b 1/2 | 1 | 1" if kind == 0 else f"machine b {kind - 1} | 1 | 1", "ok"))
            self.refuse(desk, NoText, "machine b 2/4 | 1 | 1" if kind == 0 else f"machine b {kind} | 1 | 1")


if __name__ == "__main__":
    unittest.main()

"""[23] Texts of tables: what is shown, what is read, and what is refused."""

import unittest
from fractions import Fraction

from steermill.errors import NoText
from steermill.texts import read_table, show_table
from tests.helper import KINDS, dice, plain_text, rows_in_form, table_by_dice, table_of, told

PRIMES = [kind for kind in KINDS if kind != 0]
TWENTY, MORE = "98765432109876543211", "123456789012345678901"


class NoTexts(unittest.TestCase):
    def refuse(self, kind, *texts):
        for text in texts:
            with self.assertRaises(NoText, msg=(kind, text)):
                read_table(kind, text)


class Shown(unittest.TestCase):
    def test_known_ones(self):
        halves = table_of(0, (1, Fraction(-1, 2), 0), (Fraction(22, 7), -30, 100))
        self.assertEqual(show_table(0, halves), "1 -1/2 0; 22/7 -30 100")
        self.assertEqual(show_table(0, table_of(0, (0,))), "0")
        self.assertEqual(show_table(97, [[96, 0], [10, 1]]), "96 0; 10 1")
        self.assertEqual(show_table(2, [[1], [0], [1]]), "1; 0; 1")

    def test_against_python_s_own_way(self):
        box = dice("shown")
        for kind in KINDS:
            for rows, columns in ((1, 1), (1, 12), (12, 1), (3, 4), (12, 12)):
                table = table_by_dice(box, kind, rows, columns, 20)
                self.assertEqual(show_table(kind, table), plain_text(kind, table))

    def test_more_rows_and_longer_numbers_are_shown_likewise(self):
        box = dice("much")
        for kind in KINDS:
            table = table_by_dice(box, kind, 20, 12, 60)
            self.assertEqual(show_table(kind, table), plain_text(kind, table))
        for figures in (21, 63, 64, 65, 127, 128, 129, 200, 1000, 4000):
            for whole in (10 ** (figures - 1), 10 ** figures - 1, 7 * 10 ** (figures - 1) + 3):
                table = [[(whole, 1), (-whole, 1)], [(1, whole), (-1, whole)]]
                self.assertEqual(show_table(0, table), f"{whole} -{whole}; 1/{whole} -1/{whole}")

    def test_numbers_that_python_itself_would_not_show(self):
        whole, text = 3 * 10 ** 6000 + 2 * 10 ** 64 + 7, "3" + "0" * 5935 + "2" + "0" * 63 + "7"
        self.assertEqual(show_table(0, [[(-whole, 1), (1, whole)]]), f"-{text} 1/{text}")


class ReadBack(NoTexts):
    def test_known_ones(self):
        self.assertEqual(read_table(0, "1 -1/2 0; 22/7 -30 100"),
                         table_of(0, (1, Fraction(-1, 2), 0), (Fraction(22, 7), -30, 100)))
        self.assertEqual(read_table(0, "-5"), [[(-5, 1)]])
        self.assertEqual(read_table(0, "0; 0"), [[(0, 1)], [(0, 1)]])
        self.assertEqual(read_table(2, "1 0; 0 1"), [[1, 0], [0, 1]])
        self.assertEqual(read_table(97, "96 10 0"), [[96, 10, 0]])

    def test_what_is_shown_is_read_back(self):
        box = dice("read back")
        for kind in KINDS:
            for rows in range(1, 13):
                for columns in (1, 2, 7, 12):
                    table = table_by_dice(box, kind, rows, columns, box.choice((1, 3, 20)))
                    found = read_table(kind, show_table(kind, table))
                    self.assertEqual(found, table)
                    self.assertTrue(rows_in_form(kind, found, columns))

    def test_what_is_read_is_shown_again(self):
        for kind, text in ((0, "1"), (0, "-7/3 0; 12 1/2"), (0, f"{TWENTY} -{TWENTY}"), (2, "0 1; 1 1"),
                           (31, "30; 0; 1")):
            self.assertEqual(show_table(kind, read_table(kind, text)), text)

    def test_each_rest(self):
        for prime in PRIMES:
            for rest in range(prime):
                self.assertEqual(read_table(prime, str(rest)), [[rest]])

    def test_twenty_figures_and_no_more(self):
        top, bottom = int(TWENTY), int(TWENTY) - 1
        self.assertEqual(read_table(0, TWENTY), [[(top, 1)]])
        self.assertEqual(read_table(0, f"-{TWENTY}"), [[(-top, 1)]])
        self.assertEqual(read_table(0, f"-{TWENTY}/{bottom} 1/{TWENTY}"), [[(-top, bottom), (1, top)]])
        self.assertEqual(read_table(0, "1" + "0" * 19), [[(10 ** 19, 1)]])
        for kind in KINDS:
            self.refuse(kind, MORE, f"1 {MORE}", "1" + "0" * 20, "0" * 21, "9" * 5000)
        self.refuse(0, f"-{MORE}", f"{MORE}/2", f"-{MORE}/2", f"1/{MORE}", f"-1/{MORE}", f"{MORE}/{int(MORE) - 1}")

    def test_longer_numbers_are_shown_but_not_read(self):
        for table in ([[(int(MORE), 1)]], [[(1, int(MORE))]], [[(1, 1)], [(-int(MORE), 2)]]):
            self.refuse(0, show_table(0, table))

    def test_twelve_rows_and_columns_and_no_more(self):
        for kind in KINDS:
            one = told(kind, 1)
            for rows, columns in ((12, 12), (12, 1), (1, 12)):
                self.assertEqual(read_table(kind, show_table(kind, [[one] * columns] * rows)), [[one] * columns] * rows)
            for rows, columns in ((13, 1), (20, 12), (1, 13), (12, 13), (13, 13), (2, 300)):
                self.refuse(kind, show_table(kind, [[one] * columns] * rows))


class Refused(NoTexts):
    def test_noughts_ahead(self):
        for kind in KINDS:
            self.refuse(kind, "00", "01", "000", "1 01", "1; 00")
        self.refuse(0, "-01", "01/2", "1/02", "-01/2", "00/2", "1/00")

    def test_minus_nought(self):
        for kind in KINDS:
            self.refuse(kind, "-0", "1 -0", "-00")
        self.refuse(0, "-0/1", "-0/2")

    def test_bottoms(self):
        self.refuse(0, "1/1", "0/1", "-3/1", "1/0", "0/0", "-1/0", "1/-2", "1/-1", "1/", "/2", "/", "-/2", "1/2/3",
                    "1//2", "1/+2", "1/ 2", "1 /2", "1 / 2")

    def test_fractions_that_are_not_in_their_form(self):
        self.refuse(0, "2/4", "-2/4", "0/2", "0/5", "6/3", "10/15", "2/2", "-9/3", f"{TWENTY}/{TWENTY}", "1 2/4",
                    "1; 2/4")

    def test_rests_not_below_the_prime(self):
        for prime in PRIMES:
            self.refuse(prime, str(prime), str(prime + 1), f"1 {prime}", f"0; {prime}", "100", str(prime * prime),
                        TWENTY)

    def test_signs_ahead_of_rests(self):
        for prime in PRIMES:
            self.refuse(prime, "-1", "-0", f"-{prime - 1}", f"-{prime}", "0 -1", "+1")

    def test_fractions_among_rests(self):
        for prime in PRIMES:
            self.refuse(prime, "1/2", "1/1", "0/1", "1/", "/1", "1 1/2")

    def test_spaces(self):
        for kind in KINDS:
            self.refuse(kind, " ", "  ", " 1", "1 ", "1  0", "1 0 ", " 1 0", "1;  0", "1 ; 0", "1; 0 ", " 1; 0",
                        "1 0;  1 0")

    def test_semicolons(self):
        for kind in KINDS:
            self.refuse(kind, "1;0", "1;", "1; ", ";1", "; 1", ";", "; ", "1; ; 0", "1;; 0", "1; 0;", "1; 0; ", "1 ;0",
                        "1;0 1", "1, 0", "1: 0")

    def test_rows_of_unlike_counts(self):
        for kind in KINDS:
            self.refuse(kind, "1 0; 1", "1; 1 0", "1 0; 1 0; 1", "1 0; 1 0 1", "1; 1; 1; 1 1")

    def test_no_signs_at_all(self):
        for kind in KINDS:
            self.refuse(kind, "")

    def test_signs_that_are_none_of_these(self):
        for kind in KINDS:
            for sign in map(chr, range(ord(" "), 127)):
                if not sign.isdigit():
                    self.refuse(kind, sign, f"{sign}1;", f"1{sign}", f"1{sign}{sign}0")
                if not sign.isdigit() and sign not in " /":
                    self.refuse(kind, f"1{sign}0")
                if not sign.isdigit() and sign != "-":
                    self.refuse(kind, f"{sign}1")
            self.refuse(kind, "one", "1.0", "1e1", "0x1", "1_0", "+1", "--1", "-", "1-", "1 - 0", "[[1]]", "(1, 2)",
                        "1 | 0")

    def test_line_ends_and_tabs(self):
        for kind in KINDS:
            self.refuse(kind, "1\n", "\n1", "1\n0", "1;\n0", "1\t0", "1\t", "\t1", "1; \n0", "1 \t0", "\n", "\t",
                        "1\r\n")

    def test_figures_of_other_scripts(self):
        for kind in KINDS:
            self.refuse(kind, "\u0661", "\u00b2", "1\u00a00", "\uff11", "\u2212" + "1")

    def test_what_is_no_text(self):
        for kind in KINDS:
            self.refuse(kind, None, 1, 0, True, [], [[1]], [["1"]], ("1",), b"1", {}, ["1"], 1.5)


if __name__ == "__main__":
    unittest.main()

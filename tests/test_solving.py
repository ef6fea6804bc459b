"""[7] Tables that are solved or never are, and backs."""

import unittest

from steermill.errors import MillError, NoBack, NoName, NoRow, NoText
from steermill.tables import back, solved
from tests.helper import (KINDS, by_dice, columns_of, dice, dot, noughts, plain_product, rank, row_of, rows_in_form,
                          table_by_dice, table_of, thin_by_dice, told, unit_table)

SIZES = ((1, 1), (1, 4), (4, 1), (2, 2), (3, 3), (2, 5), (5, 2), (4, 6), (6, 4))


class Solving(unittest.TestCase):
    def check(self, kind, table, row):
        """Holds what is told against the table, and tells which it was."""
        answer = solved(kind, table, row)
        self.assertIsInstance(answer, tuple)
        self.assertEqual(len(answer), 2)
        word, numbers = answer
        can_be = rank(kind, table) == rank(kind, [line + [x] for line, x in zip(table, row)])
        self.assertEqual(word, "found" if can_be else "never", (kind, table, row))
        if word == "found":
            self.assertTrue(rows_in_form(kind, [numbers], len(table[0])), (kind, table, row))
            self.assertEqual([dot(kind, line, numbers) for line in table], row, (kind, table, row))
        else:
            self.assertTrue(rows_in_form(kind, [numbers], len(table)), (kind, table, row))
            for column in columns_of(table):
                self.assertEqual(dot(kind, numbers, column), told(kind, 0), (kind, table, row))
            self.assertEqual(dot(kind, numbers, row), told(kind, 1), (kind, table, row))
        return word

    def test_lists_that_are_images(self):
        box = dice("images")
        for kind in KINDS:
            for rows, columns in SIZES:
                table = table_by_dice(box, kind, rows, columns)
                start = [by_dice(box, kind) for _ in range(columns)]
                goal = [dot(kind, line, start) for line in table]
                self.assertEqual(self.check(kind, table, goal), "found")

    def test_lists_by_dice(self):
        box = dice("any lists")
        words = []
        for kind in KINDS:
            for rows, columns in SIZES:
                for _ in range(4):
                    table = table_by_dice(box, kind, rows, columns)
                    words.append(self.check(kind, table, [by_dice(box, kind) for _ in range(rows)]))
                    few = thin_by_dice(box, kind, rows, columns, 1)
                    words.append(self.check(kind, few, [by_dice(box, kind) for _ in range(rows)]))
        self.assertGreater(words.count("found"), 50)
        self.assertGreater(words.count("never"), 50)

    def test_noughts(self):
        for kind in KINDS:
            for rows, columns in SIZES:
                empty = [noughts(kind, columns) for _ in range(rows)]
                self.assertEqual(self.check(kind, empty, noughts(kind, rows)), "found")
                goal = noughts(kind, rows)
                goal[-1] = told(kind, -1)
                self.assertEqual(self.check(kind, empty, goal), "never")

    def test_more_rows_than_columns(self):
        for kind in KINDS:
            table = table_of(kind, (1, 0), (0, 1), (1, 1))
            self.assertEqual(solved(kind, table, row_of(kind, 2, 3, 5)), ("found", row_of(kind, 2, 3)))
            self.assertEqual(self.check(kind, table, row_of(kind, 2, 3, 6)), "never")

    def test_more_columns_than_rows(self):
        for kind in KINDS:
            table = table_of(kind, (1, 1, 0, 1), (1, 1, 0, 1))
            self.assertEqual(self.check(kind, table, row_of(kind, 3, 3)), "found")
            self.assertEqual(self.check(kind, table, row_of(kind, 3, 4)), "never")

    def test_known_ones(self):
        self.assertEqual(solved(0, table_of(0, (2, 0), (0, -3)), row_of(0, 1, 1)), ("found", [(1, 2), (-1, 3)]))
        self.assertEqual(solved(97, [[2]], [1]), ("found", [49]))
        self.assertEqual(solved(0, [[(0, 1)]], [(-2, 3)]), ("never", [(-3, 2)]))
        self.assertEqual(solved(7, [[0]], [3]), ("never", [5]))

    def test_the_greatest_tables(self):
        box = dice("great tables")
        for kind in (0, 97):
            table = table_by_dice(box, kind, 20, 12, 20)
            start = [by_dice(box, kind, 20) for _ in range(12)]
            goal = [dot(kind, line, start) for line in table]
            self.assertEqual(self.check(kind, table, goal), "found")
            self.assertEqual(self.check(kind, table, [by_dice(box, kind, 20) for _ in range(20)]), "never")


class Backs(unittest.TestCase):
    def test_on_both_sides(self):
        box = dice("backs")
        for kind in KINDS:
            found = 0
            for size in (1, 2, 3, 5):
                for _ in range(8):
                    table = table_by_dice(box, kind, size, size)
                    if rank(kind, table) < size:
                        with self.assertRaises(NoBack):
                            back(kind, table)
                        continue
                    found += 1
                    answer = back(kind, table)
                    self.assertTrue(rows_in_form(kind, answer, size))
                    self.assertEqual(plain_product(kind, answer, table), unit_table(kind, size), (kind, table))
                    self.assertEqual(plain_product(kind, table, answer), unit_table(kind, size), (kind, table))
            self.assertGreater(found, 3, kind)

    def test_the_unit_and_its_kin(self):
        for kind in KINDS:
            for size in (1, 2, 12):
                self.assertEqual(back(kind, unit_table(kind, size)), unit_table(kind, size))
            ring = table_of(kind, (0, 1, 0), (0, 0, 1), (1, 0, 0))
            self.assertEqual(back(kind, ring), columns_of(ring))

    def test_known_ones(self):
        self.assertEqual(back(0, table_of(0, (1, 2), (3, 4))), [[(-2, 1), (1, 1)], [(3, 2), (-1, 2)]])
        self.assertEqual(back(7, [[1, 2], [3, 4]]), [[5, 1], [5, 3]])
        self.assertEqual(back(0, [[(-2, 3)]]), [[(-3, 2)]])
        self.assertEqual(back(97, [[96]]), [[96]])

    def test_the_back_of_the_back(self):
        table = table_by_dice(dice("great back"), 0, 12, 12, 20)
        once = back(0, table)
        self.assertEqual(plain_product(0, once, table), unit_table(0, 12))
        self.assertEqual(back(0, once), table)

    def test_where_there_is_none(self):
        for kind in KINDS:
            for size in (1, 2, 4):
                with self.assertRaises(NoBack):
                    back(kind, [noughts(kind, size) for _ in range(size)])
            for table in (table_of(kind, (1, 1), (1, 1)), table_of(kind, (0, 1), (0, 1)),
                          table_of(kind, (1, 2, 3), (4, 5, 6), (7, 8, 9)), table_of(kind, (0, 0), (0, 1))):
                with self.assertRaises(NoBack):
                    back(kind, table)

    def test_where_there_is_none_by_one_prime_alone(self):
        # The determinants are -2 and 95 times 97.
        for kind, rows in ((2, ((1, 2), (3, 4))), (97, ((96, 1), (1, 96)))):
            with self.assertRaises(NoBack):
                back(kind, table_of(kind, *rows))
            for other in (0, 31):
                answer = back(other, table_of(other, *rows))
                self.assertEqual(plain_product(other, answer, table_of(other, *rows)), unit_table(other, 2))

    def test_what_kind_of_refusal_it_is(self):
        with self.assertRaises(MillError) as refused:
            back(0, [[(0, 1)]])
        self.assertIsInstance(refused.exception, NoBack)
        self.assertIsInstance(refused.exception, ValueError)
        self.assertNotIsInstance(refused.exception, (NoText, NoName, NoRow))


if __name__ == "__main__":
    unittest.main()

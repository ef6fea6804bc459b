"""[5] Products, images, turned tables and the reduced form."""

import unittest
from itertools import product as all_choices

from steermill.tables import image, product, reduced, turned
from tests.helper import (KINDS, by_dice, columns_of, dice, dot, is_reduced, noughts, plain_product, rank, row_of,
                          rows_in_form, table_by_dice, table_of, thin_by_dice, unit_table)

SIZES = ((1, 1), (1, 4), (4, 1), (2, 2), (2, 3), (3, 2), (3, 3), (5, 4), (4, 6))


class Products(unittest.TestCase):
    def test_rows_by_columns(self):
        box = dice("products")
        for kind in KINDS:
            for rows, between in SIZES:
                for columns in (1, 2, 5):
                    one = table_by_dice(box, kind, rows, between)
                    other = table_by_dice(box, kind, between, columns)
                    answer = product(kind, one, other)
                    self.assertTrue(rows_in_form(kind, answer, columns))
                    self.assertEqual(answer, plain_product(kind, one, other), (kind, one, other))

    def test_the_unit_on_either_side_changes_nothing(self):
        box = dice("units")
        for kind in KINDS:
            table = table_by_dice(box, kind, 3, 4)
            self.assertEqual(product(kind, unit_table(kind, 3), table), table)
            self.assertEqual(product(kind, table, unit_table(kind, 4)), table)

    def test_known_ones(self):
        for kind in KINDS:
            one = table_of(kind, (1, 2), (3, 4))
            other = table_of(kind, (0, 1), (1, 1))
            self.assertEqual(product(kind, one, other), table_of(kind, (2, 3), (4, 7)))
            self.assertEqual(product(kind, other, one), table_of(kind, (3, 4), (4, 6)))
        self.assertEqual(product(0, [[(1, 2), (1, 3)]], [[(1, 1)], [(-3, 2)]]), [[(0, 1)]])

    def test_the_greatest_tables(self):
        box = dice("great products")
        for kind in (0, 97):
            one = table_by_dice(box, kind, 20, 12, 20)
            other = table_by_dice(box, kind, 12, 12, 20)
            self.assertEqual(product(kind, one, other), plain_product(kind, one, other))


class Images(unittest.TestCase):
    def test_a_sum_of_products_for_each_row(self):
        box = dice("images")
        for kind in KINDS:
            for rows, columns in SIZES:
                table = table_by_dice(box, kind, rows, columns)
                row = [by_dice(box, kind) for _ in range(columns)]
                answer = image(kind, table, row)
                self.assertTrue(rows_in_form(kind, [answer], rows))
                self.assertEqual(answer, [dot(kind, line, row) for line in table], (kind, table, row))

    def test_known_ones(self):
        for kind in KINDS:
            table = table_of(kind, (1, 2, 3), (0, -1, 5))
            self.assertEqual(image(kind, table, row_of(kind, 1, 1, 1)), row_of(kind, 6, 4))
            self.assertEqual(image(kind, table, noughts(kind, 3)), noughts(kind, 2))


class TurnedTables(unittest.TestCase):
    def test_rows_become_columns(self):
        box = dice("turned")
        for kind in KINDS:
            for rows, columns in SIZES:
                table = table_by_dice(box, kind, rows, columns)
                answer = turned(table)
                self.assertTrue(rows_in_form(kind, answer, rows))
                self.assertEqual(answer, columns_of(table))
                self.assertEqual(turned(answer), table)

    def test_a_known_one(self):
        self.assertEqual(turned([[1, 2, 3], [4, 5, 6]]), [[1, 4], [2, 5], [3, 6]])


class ReducedForm(unittest.TestCase):
    def check(self, kind, rows, width):
        """There is but one reduced form, so its own words and the sums of multiples tell it."""
        answer = reduced(kind, rows)
        self.assertTrue(rows_in_form(kind, answer, width), (kind, rows, answer))
        self.assertTrue(is_reduced(kind, answer), (kind, rows, answer))
        self.assertEqual(len(answer), rank(kind, rows), (kind, rows, answer))
        self.assertEqual(len(answer), rank(kind, rows + answer), (kind, rows, answer))
        return answer

    def test_of_no_rows(self):
        for kind in KINDS:
            self.assertEqual(reduced(kind, []), [])

    def test_of_rows_of_noughts(self):
        for kind in KINDS:
            for count in (1, 2, 5):
                for width in (1, 3):
                    self.assertEqual(reduced(kind, [noughts(kind, width) for _ in range(count)]), [])

    def test_of_a_single_row(self):
        self.assertEqual(reduced(0, [[(0, 1), (-2, 3), (1, 2)]]), [[(0, 1), (1, 1), (-3, 4)]])
        self.assertEqual(reduced(7, [[0, 3, 5]]), [[0, 1, 4]])
        self.assertEqual(reduced(0, [[(-5, 9)]]), [[(1, 1)]])
        self.assertEqual(reduced(97, [[96]]), [[1]])

    def test_of_multiples_of_others(self):
        for kind in KINDS:
            rows = table_of(kind, (1, 1, 0), (3, 3, 0), (-1, -1, 0), (0, 0, 1), (0, 0, 5))
            self.assertEqual(reduced(kind, rows), table_of(kind, (1, 1, 0), (0, 0, 1)))
        box = dice("multiples")
        for kind in KINDS:
            for wanted in (1, 2, 3):
                self.check(kind, thin_by_dice(box, kind, 5, 6, wanted), 6)

    def test_of_rows_with_noughts_ahead(self):
        for kind in KINDS:
            rows = table_of(kind, (0, 0, 0, 1), (0, 0, 1, 1), (0, 1, 1, 1))
            self.assertEqual(reduced(kind, rows), table_of(kind, (0, 1, 0, 0), (0, 0, 1, 0), (0, 0, 0, 1)))
            rows = table_of(kind, (0, 0, 1, 1), (0, 1, 1, 0), (0, 0, 0, 0), (0, 1, 0, -1))
            self.assertEqual(reduced(kind, rows), table_of(kind, (0, 1, 0, -1), (0, 0, 1, 1)))

    def test_of_a_list_that_is_reduced_already(self):
        box = dice("again")
        for kind in KINDS:
            known = table_of(kind, (1, 0, 4, 0), (0, 1, -3, 0), (0, 0, 0, 1))
            self.assertEqual(reduced(kind, known), known)
            for rows, columns in SIZES:
                once = reduced(kind, table_by_dice(box, kind, rows, columns))
                self.assertEqual(reduced(kind, once), once)

    def test_turning_the_rows_leads_to_the_same(self):
        box = dice("turning")
        for kind in KINDS:
            rows = table_by_dice(box, kind, 4, 6)
            once = reduced(kind, rows)
            self.assertEqual(reduced(kind, rows[::-1]), once)
            self.assertEqual(reduced(kind, rows + rows), once)
            mixed = plain_product(kind, table_of(kind, (1, 0, 0, 0), (4, 1, 0, 0), (2, 0, 1, 0), (0, 0, -1, -1)), rows)
            self.assertEqual(reduced(kind, mixed), once)

    def test_of_rows_by_dice(self):
        box = dice("reduced")
        for kind in KINDS:
            for rows, columns in SIZES:
                for _ in range(4):
                    self.check(kind, table_by_dice(box, kind, rows, columns), columns)

    def test_known_ones(self):
        self.assertEqual(reduced(0, table_of(0, (2, 4, 1), (1, 2, 3))), table_of(0, (1, 2, 0), (0, 0, 1)))
        self.assertEqual(reduced(0, table_of(0, (2, 1, 1), (1, 3, 2))), [[(1, 1), (0, 1), (1, 5)],
                                                                        [(0, 1), (1, 1), (3, 5)]])
        self.assertEqual(reduced(5, [[2, 1, 1], [1, 3, 2]]), [[1, 3, 0], [0, 0, 1]])
        self.assertEqual(reduced(2, [[1, 1, 0], [1, 0, 1], [0, 1, 1]]), [[1, 0, 1], [0, 1, 1]])

    def test_the_greatest_lists(self):
        box = dice("great lists")
        for kind in (0, 97):
            self.assertEqual(reduced(kind, table_by_dice(box, kind, 20, 12, 20)), unit_table(kind, 12))
            self.check(kind, table_by_dice(box, kind, 6, 12, 20), 12)

    def test_each_list_of_two_rows_by_two(self):
        for bits in all_choices((0, 1), repeat=6):
            self.check(2, [list(bits[:3]), list(bits[3:])], 3)


if __name__ == "__main__":
    unittest.main()

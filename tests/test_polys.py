"""[16] Great polynomials."""

import unittest
from itertools import product as all_choices

from steermill.polys import great
from steermill.tables import turned
from tests.helper import (KINDS, SMALL_PRIMES, dice, handed_on, in_corners, noughts, plain_great, plain_product,
                          poly_by_dice, poly_product, row_of, rows_in_form, table_by_dice, table_of, thin_by_dice,
                          told, turn_by_dice, unit_table)


def lower_by_dice(box, kind, n):
    """A table with noughts right of the diagonal."""
    table = table_by_dice(box, kind, n, n)
    return [row[:place + 1] + noughts(kind, n - place - 1) for place, row in enumerate(table)]


class Great(unittest.TestCase):
    def check(self, kind, table):
        """Holds it against the determinant reckoned another way."""
        answer = great(kind, table)
        case = (kind, table)
        self.assertIs(type(answer), list, case)
        self.assertTrue(rows_in_form(kind, [answer], len(table) + 1), case)
        self.assertEqual(answer[-1], told(kind, 1), case)
        self.assertEqual(answer, plain_great(kind, table), case)
        return answer

    def test_drawn_tables_of_one_to_ten_rows(self):
        box = dice("great")
        for kind in KINDS + SMALL_PRIMES:
            for n in range(1, 8):
                for _ in range(3):
                    self.check(kind, table_by_dice(box, kind, n, n, 2))
            for n in (8, 9, 10):
                self.check(kind, table_by_dice(box, kind, n, n, 1))

    def test_as_many_rows_as_the_prime_and_more(self):
        box = dice("small primes")
        for prime in (2, 3, 5, 7):
            for n in range(prime, 11 if prime > 3 else 9):
                self.check(prime, table_by_dice(box, prime, n, n))
                self.check(prime, [[1] * n for _ in range(n)])

    def test_tables_of_fewer_rows_in_their_reduced_form(self):
        box = dice("thin great")
        for kind in KINDS:
            for n in range(2, 7):
                for rank in range(1, n):
                    answer = self.check(kind, thin_by_dice(box, kind, n, n, rank))
                    self.assertEqual(answer[:n - rank], noughts(kind, n - rank))

    def test_one_row(self):
        for kind in KINDS:
            for value in (-3, -1, 0, 1, 2, 50):
                self.assertEqual(great(kind, table_of(kind, (value,))), row_of(kind, -value, 1))
        self.assertEqual(great(0, [[(-2, 3)]]), [(2, 3), (1, 1)])

    def test_the_unit_and_noughts(self):
        for kind in KINDS:
            wanted = [told(kind, 1)]
            for n in range(1, 11):
                wanted = poly_product(kind, wanted, row_of(kind, -1, 1))
                self.assertEqual(great(kind, unit_table(kind, n)), wanted)
                self.assertEqual(great(kind, [noughts(kind, n) for _ in range(n)]), row_of(kind, *[0] * n, 1))

    def test_two_rows(self):
        for kind in KINDS:
            self.assertEqual(great(kind, table_of(kind, (1, 2), (3, 4))), row_of(kind, -2, -5, 1))
            self.assertEqual(great(kind, table_of(kind, (0, 1), (0, 0))), row_of(kind, 0, 0, 1))
            self.assertEqual(great(kind, table_of(kind, (0, 1), (-1, 0))), row_of(kind, 1, 0, 1))
        self.assertEqual(great(0, [[(1, 2), (1, 3)], [(1, 5), (1, 7)]]), [(1, 210), (-9, 14), (1, 1)])

    def test_the_table_that_hands_on_by_a_polynomial_has_it(self):
        box = dice("handed on")
        for kind in KINDS:
            for n in range(1, 11):
                wanted = poly_by_dice(box, kind, n, 20)
                row = [told(kind, 0) if x == told(kind, 0) else ((-x[0], x[1]) if kind == 0 else kind - x)
                       for x in wanted[:-1]]
                self.assertEqual(great(kind, handed_on(kind, n, row, 1, 1)[0]), wanted)

    def test_noughts_right_of_the_diagonal_leave_the_diagonal(self):
        box = dice("lower")
        for kind in KINDS:
            for n in range(1, 11):
                table = lower_by_dice(box, kind, n)
                wanted = [told(kind, 1)]
                for place in range(n):
                    wanted = poly_product(kind, wanted, great(kind, [[table[place][place]]]))
                self.assertEqual(great(kind, table), wanted)
                self.assertEqual(great(kind, turned(table)), wanted)

    def test_two_tables_along_the_diagonal_have_the_product(self):
        box = dice("corners")
        for kind in KINDS:
            for n, m in ((1, 1), (2, 3), (5, 5), (4, 6)):
                one, other = table_by_dice(box, kind, n, n), table_by_dice(box, kind, m, m)
                self.assertEqual(great(kind, in_corners(kind, one, other)),
                                 poly_product(kind, great(kind, one), great(kind, other)))

    def test_a_turn_changes_nothing(self):
        box = dice("turned great")
        for kind in KINDS:
            for n in (2, 4, 5):
                table = table_by_dice(box, kind, n, n)
                T, S = turn_by_dice(box, kind, n, 2)
                there = plain_product(kind, plain_product(kind, S, table), T)
                self.assertEqual(great(kind, there), great(kind, table))

    def test_each_small_table_one_by_one(self):
        for prime, n in ((2, 1), (2, 2), (2, 3), (3, 1), (3, 2), (5, 2)):
            for numbers in all_choices(range(prime), repeat=n * n):
                self.check(prime, [list(numbers[place * n:place * n + n]) for place in range(n)])

    def test_long_numbers(self):
        box = dice("long great")
        self.check(0, table_by_dice(box, 0, 5, 5, 60))
        table = table_by_dice(box, 0, 10, 10, 20)
        T, S = turn_by_dice(box, 0, 10)
        there = plain_product(0, plain_product(0, S, table), T)
        self.assertEqual(great(0, there), great(0, table))


if __name__ == "__main__":
    unittest.main()

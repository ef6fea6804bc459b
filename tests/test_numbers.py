"""[4] Numbers made of whole numbers, their sums, differences, products and quotients."""

import unittest
from fractions import Fraction

from steermill.numbers import minus, number, over, plus, times
from tests.helper import KINDS, by_dice, dice, in_form, plain, plain_over, told

SIXTY = 10 ** 60 - 1
WHOLES = (0, 1, -1, 2, -2, 6, -6, 96, 97, 98, -96, -97, -98, 194, 12345, -12345,
          SIXTY, -SIXTY, 10 ** 59, -10 ** 59, 10 ** 59 + 7, -10 ** 59 - 7)


def numbers_of(kind):
    """Ordinary numbers and edges of a kind, also of sixty figures where there are such."""
    if kind != 0:
        return list(range(kind)) if kind < 10 else [0, 1, 2, 3, kind // 2, kind - 2, kind - 1]
    box = dice("numbers")
    some = [(0, 1), (1, 1), (-1, 1), (2, 1), (1, 2), (-1, 2), (2, 3), (-3, 2), (1, 6), (5, 6), (-5, 6),
            (SIXTY, 1), (-SIXTY, 1), (1, SIXTY), (-1, SIXTY), (SIXTY, SIXTY - 1), (-SIXTY, SIXTY - 1)]
    return some + [by_dice(box, 0, 60) for _ in range(6)] + [by_dice(box, 0, 6) for _ in range(6)]


class Made(unittest.TestCase):
    def test_by_fractions_a_whole_number_stands_over_one(self):
        for whole in WHOLES:
            self.assertEqual(number(0, whole), (whole, 1))

    def test_by_a_prime_it_is_the_rest(self):
        for kind in KINDS[1:]:
            for whole in WHOLES:
                made = number(kind, whole)
                self.assertTrue(in_form(kind, made), (kind, whole))
                self.assertEqual((made - whole) % kind, 0, (kind, whole))

    def test_known_ones(self):
        self.assertEqual(number(0, -7), (-7, 1))
        self.assertEqual(number(2, -1), 1)
        self.assertEqual(number(97, -1), 96)
        self.assertEqual(number(97, 97), 0)
        self.assertEqual(number(7, 0), 0)


class Reckoned(unittest.TestCase):
    def check(self, kind, function, one, other, value):
        answer = function(kind, one, other)
        self.assertTrue(in_form(kind, answer), (kind, function, one, other, answer))
        self.assertEqual(answer, told(kind, value), (kind, function, one, other))

    def test_all_pairs_both_ways_and_each_with_itself(self):
        for kind in KINDS:
            for one in numbers_of(kind):
                for other in numbers_of(kind):
                    left, right = plain(kind, one), plain(kind, other)
                    self.check(kind, plus, one, other, left + right)
                    self.check(kind, minus, one, other, left - right)
                    self.check(kind, times, one, other, left * right)
                    if right != 0:
                        self.check(kind, over, one, other, plain_over(kind, left, right))

    def test_each_quotient_of_the_least_and_the_greatest_prime(self):
        for kind in (2, 97):
            for one in range(kind):
                for other in range(1, kind):
                    answer = over(kind, one, other)
                    self.assertTrue(in_form(kind, answer))
                    self.assertEqual(answer * other % kind, one)

    def test_one_less_itself_and_over_itself(self):
        for kind in KINDS:
            for one in numbers_of(kind):
                self.assertEqual(minus(kind, one, one), told(kind, 0))
                if one != told(kind, 0):
                    self.assertEqual(over(kind, one, one), told(kind, 1))

    def test_nothing_is_told_of_a_number_over_nought(self):
        for kind in KINDS:
            for one in numbers_of(kind):
                with self.assertRaises(ZeroDivisionError):
                    over(kind, one, told(kind, 0))

    def test_known_fractions(self):
        self.assertEqual(plus(0, (1, 6), (1, 3)), (1, 2))
        self.assertEqual(plus(0, (-1, 2), (1, 2)), (0, 1))
        self.assertEqual(minus(0, (1, 3), (1, 2)), (-1, 6))
        self.assertEqual(times(0, (-2, 3), (3, 2)), (-1, 1))
        self.assertEqual(over(0, (1, 2), (-3, 4)), (-2, 3))
        self.assertEqual(over(0, (0, 1), (-5, 7)), (0, 1))
        self.assertEqual(over(0, (-4, 9), (-2, 3)), (2, 3))

    def test_known_rests(self):
        self.assertEqual(plus(2, 1, 1), 0)
        self.assertEqual(minus(97, 0, 1), 96)
        self.assertEqual(times(97, 96, 96), 1)
        self.assertEqual(over(7, 1, 3), 5)
        self.assertEqual(over(97, 1, 96), 96)

    def test_the_reckoning_is_exact_with_sixty_figures(self):
        one, other = (SIXTY, SIXTY - 1), (SIXTY - 2, SIXTY - 4)
        left, right = Fraction(*one), Fraction(*other)
        self.check(0, plus, told(0, left), told(0, right), left + right)
        self.check(0, over, told(0, left), told(0, right), left / right)


if __name__ == "__main__":
    unittest.main()

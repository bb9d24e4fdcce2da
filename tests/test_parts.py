"""Fractions, held against Python's own."""

import random
import unittest
from fractions import Fraction
from math import gcd

from byestand.parts import greater, less, lowest, plus

SIXTY = 10 ** 60 - 1


def told(value):
    return (value.numerator, value.denominator)


def some_numbers(chance, figures, many):
    return [chance.randrange(-(10 ** figures) + 1, 10 ** figures) for _ in range(many)]


def some_fractions():
    """Small ones below and above 0, nought, and ones of some thirty figures."""
    chance = random.Random(4)
    values = {Fraction(over, under) for over in range(-4, 5) for under in range(1, 5)}
    for over, under in zip(some_numbers(chance, 30, 12), some_numbers(chance, 30, 12)):
        values.add(Fraction(over, under or 1))
        values.add(Fraction(-over, under or 1))
        values.add(Fraction(over + 1, under or 1))
    return sorted(values)


class Lowest(unittest.TestCase):
    def check(self, over, under):
        answer = lowest(over, under)
        self.assertIs(type(answer), tuple)
        self.assertEqual(answer, told(Fraction(over, under)), (over, under))
        self.assertEqual([type(number) for number in answer], [int, int])
        self.assertGreater(answer[1], 0)
        self.assertEqual(gcd(*answer), 1)

    def test_written_ones(self):
        self.assertEqual(lowest(6, 4), (3, 2))
        self.assertEqual(lowest(-6, 4), (-3, 2))
        self.assertEqual(lowest(6, -4), (-3, 2))
        self.assertEqual(lowest(-6, -4), (3, 2))
        self.assertEqual(lowest(8, 4), (2, 1))
        self.assertEqual(lowest(4, 8), (1, 2))
        self.assertEqual(lowest(3, 7), (3, 7))

    def test_all_small_numbers(self):
        for over in range(-30, 31):
            for under in range(-30, 31):
                if under != 0:
                    self.check(over, under)

    def test_nought_over_anything(self):
        for under in (1, -1, 2, -2, 7, 10 ** 40, -(10 ** 40), SIXTY, -SIXTY):
            self.assertEqual(lowest(0, under), (0, 1))

    def test_products_with_a_common_divisor(self):
        chance = random.Random(1)
        for figures in (3, 12, 20, 30):
            for _ in range(60):
                one, other, shared = some_numbers(chance, figures, 3)
                self.check(one * shared, (other or 1) * (shared or 1))

    def test_far_numbers(self):
        chance = random.Random(2)
        for figures in (40, 41, 59, 60):
            for _ in range(60):
                one, other = some_numbers(chance, figures, 2)
                self.check(one, other or 1)
        for over in (SIXTY, -SIXTY, SIXTY - 1, 10 ** 59, 1, 0):
            for under in (SIXTY, -SIXTY, SIXTY - 1, 10 ** 59, -1, 1):
                self.check(over, under)


class Sums(unittest.TestCase):
    def test_written_ones(self):
        self.assertEqual(plus((1, 2), (1, 3)), (5, 6))
        self.assertEqual(plus((1, 6), (1, 3)), (1, 2))
        self.assertEqual(plus((-1, 2), (1, 2)), (0, 1))
        self.assertEqual(less((1, 2), (1, 3)), (1, 6))
        self.assertEqual(less((1, 3), (1, 2)), (-1, 6))
        self.assertEqual(less((5, 7), (5, 7)), (0, 1))
        self.assertEqual(less((0, 1), (-2, 3)), (2, 3))

    def test_written_comparisons(self):
        self.assertIs(greater((1, 2), (1, 3)), True)
        self.assertIs(greater((1, 3), (1, 2)), False)
        self.assertIs(greater((1, 2), (1, 2)), False)
        self.assertIs(greater((-1, 2), (-1, 3)), False)
        self.assertIs(greater((-1, 3), (-1, 2)), True)
        self.assertIs(greater((0, 1), (-1, 10 ** 30)), True)
        self.assertIs(greater((10 ** 30, 10 ** 30 + 1), (10 ** 30 - 1, 10 ** 30)), True)

    def test_against_pythons_own(self):
        values = some_fractions()
        for one in values:
            for other in values:
                first, second = told(one), told(other)
                self.assertEqual(plus(first, second), told(one + other))
                self.assertEqual(less(first, second), told(one - other))
                self.assertIs(greater(first, second), one > other)

    def test_sums_that_are_nought(self):
        for value in some_fractions():
            self.assertEqual(plus(told(value), told(-value)), (0, 1))
            self.assertEqual(less(told(value), told(value)), (0, 1))

    def test_answers_are_tuples(self):
        self.assertIs(type(plus((1, 2), (1, 3))), tuple)
        self.assertIs(type(less((1, 2), (1, 3))), tuple)


if __name__ == "__main__":
    unittest.main()

"""Half wins, points and rulings, held against the words of [13] and [14] with Python's own fractions."""

import copy
import itertools
import random
import unittest
from fractions import Fraction
from math import gcd

from byestand.points import half_wins, points, ruled

EDGES = [-9999, -9998, -1, 0, 1, 9998, 9999]


def drawn_lists():
    """Lists of one to nine scores, many of them alike."""
    chance = random.Random(13)
    found = []
    for n in range(1, 10):
        for few in (1, 2, 3, 7):
            for _ in range(12):
                some = chance.sample(EDGES, few)
                found.append([chance.choice(some) for _ in range(n)])
        for _ in range(20):
            found.append([chance.randrange(-9999, 10000) for _ in range(n)])
    return found


LISTS = drawn_lists() + [list(few) for n in (1, 2, 3) for few in itertools.product(EDGES, repeat=n)]


def wins_by_meetings(scores):
    """Half wins found by letting each two scores meet once."""
    wins = [0] * len(scores)
    for one, other in itertools.combinations(range(len(scores)), 2):
        if scores[one] == scores[other]:
            wins[one] += 1
            wins[other] += 1
        else:
            wins[one if scores[one] > scores[other] else other] += 2
    return wins


def is_fraction(told):
    over, under = told
    return type(told) is tuple and type(over) is int and type(under) is int and under > 0 and gcd(over, under) == 1


class HalfWins(unittest.TestCase):
    def test_each_two_scores_meet(self):
        for scores in LISTS:
            with self.subTest(scores):
                self.assertEqual(half_wins(scores), wins_by_meetings(scores))

    def test_written_ones(self):
        self.assertEqual(half_wins([5]), [0])
        self.assertEqual(half_wins([5, 5]), [1, 1])
        self.assertEqual(half_wins([-9999, 9999]), [0, 2])
        self.assertEqual(half_wins([620, -100, 620, 650]), [3, 0, 3, 6])
        self.assertEqual(half_wins([0] * 9), [8] * 9)

    def test_all_together(self):
        for scores in LISTS:
            self.assertEqual(sum(half_wins(scores)), len(scores) * (len(scores) - 1))

    def test_what_is_handed_in_stays_and_a_told_list_changed(self):
        for scores in LISTS:
            kept = copy.copy(scores)
            told = half_wins(scores)
            self.assertEqual(scores, kept)
            self.assertIs(type(told), list)
            self.assertIsNot(told, scores)
            told.append(77)
            told[0] = 99
            self.assertEqual(half_wins(scores), wins_by_meetings(kept))


class Points(unittest.TestCase):
    def test_by_the_words(self):
        for scores in LISTS:
            n = len(scores)
            for many in range(n, 10):
                with self.subTest(scores=scores, many=many):
                    told = points(scores, many)
                    for own, wins in zip(told, wins_by_meetings(scores)):
                        self.assertTrue(is_fraction(own), own)
                        self.assertEqual(Fraction(*own), Fraction((wins + 1) * many - n, n))
                    self.assertEqual(len(told), n)

    def test_written_ones(self):
        self.assertEqual(points([7], 1), [(0, 1)])
        self.assertEqual(points([7], 9), [(8, 1)])
        self.assertEqual(points([1, 2], 2), [(0, 1), (2, 1)])
        self.assertEqual(points([1, 2], 3), [(1, 2), (7, 2)])
        self.assertEqual(points([1, 1], 3), [(2, 1), (2, 1)])
        self.assertEqual(points([620, -100, 620], 4), [(13, 3), (1, 3), (13, 3)])
        self.assertEqual(points([-9999, 0, 9999], 3), [(0, 1), (2, 1), (4, 1)])

    def test_as_many_tables_as_scores_give_the_half_wins(self):
        for scores in LISTS:
            self.assertEqual(points(scores, len(scores)), [(wins, 1) for wins in half_wins(scores)])

    def test_both_sides_together_are_the_top(self):
        """The second pair's points are the first one's where every score is turned about."""
        for scores in LISTS:
            for many in range(len(scores), 10):
                turned = points([-score for score in scores], many)
                for own, other in zip(points(scores, many), turned):
                    self.assertEqual(Fraction(*own) + Fraction(*other), 2 * many - 2)

    def test_who_did_better_is_all_that_counts(self):
        chance = random.Random(3)
        for scores in LISTS:
            ladder = sorted(set(scores))
            others = sorted(chance.sample(range(-9999, 10000), len(ladder)))
            ends = list(range(-9999, -9999 + len(ladder)))
            for led in (dict(zip(ladder, others)), dict(zip(ladder, ends)), dict(zip(ladder, range(len(ladder))))):
                for many in (len(scores), 9):
                    self.assertEqual(points([led[score] for score in scores], many), points(scores, many))
            self.assertEqual(half_wins([led[score] for score in scores]), half_wins(scores))

    def test_in_another_order_each_score_has_the_same(self):
        chance = random.Random(4)
        for scores in LISTS:
            places = list(range(len(scores)))
            chance.shuffle(places)
            told = points(scores, 9)
            self.assertEqual(points([scores[place] for place in places], 9), [told[place] for place in places])

    def test_what_is_handed_in_stays_and_a_told_list_changed(self):
        for scores in LISTS:
            kept = copy.copy(scores)
            told = points(scores, 9)
            self.assertEqual(scores, kept)
            self.assertIs(type(told), list)
            before = list(told)
            told.reverse()
            told.append((1, 2))
            self.assertEqual(points(scores, 9), before)


class Ruled(unittest.TestCase):
    def test_all_tenths_and_tables(self):
        for tenths, many in itertools.product(range(11), range(1, 10)):
            with self.subTest(tenths=tenths, many=many):
                told = ruled(tenths, many)
                self.assertTrue(is_fraction(told), told)
                self.assertEqual(Fraction(*told), Fraction(tenths, 10) * (2 * many - 2))

    def test_written_ones(self):
        self.assertEqual(ruled(0, 9), (0, 1))
        self.assertEqual(ruled(10, 9), (16, 1))
        self.assertEqual(ruled(6, 4), (18, 5))
        self.assertEqual(ruled(5, 3), (2, 1))
        self.assertEqual(ruled(10, 1), (0, 1))


if __name__ == "__main__":
    unittest.main()

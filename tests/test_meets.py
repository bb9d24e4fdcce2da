"""Pairs held against one another, found by writing each pair's side beside each set, round by round."""

import copy
import itertools
import random
import unittest

from byestand.errors import NoPair, NoRound, TooMany, Twice
from byestand.meets import beside, evenest, faced, unevenness
from byestand.plans import Plan

from moves import EACH, each_plan, rows_of
from moves import beside as numbers_beside

SHORT = [(kind, tables) for kind, tables in EACH if len(rows_of(kind, tables)) <= 7]
LONG = [place for place in EACH if place not in SHORT]


def turned_rows(rows, turned):
    """Rows in which first and second are exchanged in some rounds."""
    found = []
    for at, cells in enumerate(rows):
        found.append([(second, first, number) if at in turned else (first, second, number)
                      for first, second, number in cells])
    return found


def sides_of(rows, pair):
    """For each set that a pair has: its side, and with whom."""
    found = {}
    for cells in rows:
        for first, second, number in cells:
            if pair == first:
                found[number] = ("first", second)
            if pair == second:
                found[number] = ("second", first)
    return found


def counted(rows, one, other):
    """By how many sets two pairs are like and unlike, in rows that are turned already."""
    mine, theirs = sides_of(rows, one), sides_of(rows, other)
    both = [number for number in mine if number in theirs and mine[number][1] != other]
    like = len([number for number in both if mine[number][0] == theirs[number][0]])
    return (like, len(both) - like)


def uneven(rows, turned):
    bent = turned_rows(rows, turned)
    pairs = range(2 * len(rows[0]))
    sides = [sides_of(bent, pair) for pair in pairs]
    found = 0
    for one, other in itertools.combinations(pairs, 2):
        gap = 0
        for number, (side, across) in sides[one].items():
            if across != other and number in sides[other]:
                gap += 1 if sides[other][number][0] == side else -1
        found += gap * gap
    return found


def some_turned(rounds, seed=0):
    """No rounds, one, some, all, in several orders."""
    chance = random.Random(seed)
    every = list(range(rounds))
    found = [[], [0], [rounds - 1], every, every[::-1], every[::2], every[1::2][::-1]]
    for _ in range(4):
        some = chance.sample(every, chance.randrange(1, rounds))
        found.append(some)
    return found


class Faced(unittest.TestCase):
    def test_all_two_pairs_of_each_plan(self):
        for plan, rows in each_plan():
            met = [cell[:2] for cells in rows for cell in cells]
            for one, other in itertools.product(range(plan.pairs()), repeat=2):
                with self.subTest(kind=plan.kind, tables=plan.tables, one=one, other=other):
                    expected = met.count((one, other)) + met.count((other, one))
                    self.assertEqual(faced(plan, one, other), expected)
                    self.assertLessEqual(expected, 1)
                    if one == other:
                        self.assertEqual(faced(plan, one, other), 0)

    def test_each_two_meet_in_a_ring_and_never_two_of_one_of_two_fields(self):
        for plan, _ in each_plan():
            for one, other in itertools.combinations(range(plan.pairs()), 2):
                if plan.kind == "ring":
                    self.assertEqual(faced(plan, one, other), 1)
                elif plan.field(one) == plan.field(other):
                    self.assertEqual(faced(plan, one, other), 0)

    def test_no_pair_for_either(self):
        for plan, _ in each_plan():
            for wrong in numbers_beside(plan.pairs()):
                for one, other in ((wrong, 0), (0, wrong), (wrong, wrong), (plan.pairs() - 1, wrong)):
                    with self.subTest(kind=plan.kind, one=one, other=other), self.assertRaises(NoPair):
                        faced(plan, one, other)


class Beside(unittest.TestCase):
    def test_all_two_pairs(self):
        for plan, rows in each_plan():
            for turned in some_turned(plan.rounds()):
                bent = turned_rows(rows, turned)
                for one, other in itertools.combinations(range(plan.pairs()), 2):
                    with self.subTest(kind=plan.kind, tables=plan.tables, turned=turned, one=one, other=other):
                        told = beside(plan, turned, one, other)
                        self.assertEqual(told, counted(bent, one, other))
                        self.assertIs(type(told), tuple)
                        self.assertEqual(beside(plan, turned, other, one), told)

    def test_written_ones(self):
        plan = Plan("straight", 3)
        self.assertEqual(beside(plan, [], 0, 1), (3, 0))
        self.assertEqual(beside(plan, [], 0, 3), (0, 2))
        self.assertEqual(beside(plan, [0], 0, 1), (1, 2))
        self.assertEqual(beside(plan, [2, 0], 0, 1), (1, 2))
        self.assertEqual(beside(plan, [0, 1, 2], 0, 1), (3, 0))
        self.assertEqual(beside(Plan("skip", 4), [], 0, 1), (2, 0))

    def test_the_list_handed_in_stays(self):
        plan = Plan("ring", 4)
        for turned in some_turned(7):
            kept = copy.copy(turned)
            told = beside(plan, turned, 0, 5)
            uneven_now = unevenness(plan, turned)
            self.assertEqual(turned, kept)
            turned.clear()
            self.assertEqual(beside(plan, kept, 0, 5), told)
            self.assertEqual(unevenness(plan, kept), uneven_now)

    def test_the_same_two_with_other_rounds_between(self):
        for plan, rows in each_plan():
            first = [beside(plan, turned, 0, plan.pairs() - 1) for turned in some_turned(plan.rounds())]
            again = []
            for turned in some_turned(plan.rounds()):
                beside(plan, [plan.rounds() - 1], 1, 2)
                beside(plan, [], 0, plan.pairs() - 1)
                again.append(beside(plan, turned, 0, plan.pairs() - 1))
            self.assertEqual(again, first)
            self.assertEqual(plan.rows(), rows)

    def test_refusals_in_order(self):
        for plan, _ in each_plan():
            lists = ([], [0], [-1], [plan.rounds()], [0, 0], [0, 0, plan.rounds()], [10 ** 60 - 1, 10 ** 60 - 1])
            for turned in lists:
                for wrong in numbers_beside(plan.pairs()):
                    for one, other in ((wrong, 0), (0, wrong), (wrong, wrong)):
                        with self.subTest(turned=turned, one=one, other=other), self.assertRaises(NoPair):
                            beside(plan, turned, one, other)
                for pair in (0, plan.pairs() - 1):
                    with self.subTest(turned=turned, pair=pair), self.assertRaises(Twice):
                        beside(plan, turned, pair, pair)

    def test_no_round_ahead_of_twice(self):
        for plan, _ in each_plan():
            every = list(range(plan.rounds()))
            for wrong in numbers_beside(plan.rounds()):
                for turned in ([wrong], [wrong, wrong], [0, 0, wrong], [wrong, 1, 1], every + [wrong], [wrong] + every):
                    for ask in (lambda: beside(plan, turned, 0, 1), lambda: unevenness(plan, turned)):
                        with self.subTest(kind=plan.kind, turned=turned), self.assertRaises(NoRound):
                            ask()
            for at in every:
                for turned in ([at, at], [at] + every, every + [at], every[::-1] + [at]):
                    for ask in (lambda: beside(plan, turned, 0, 1), lambda: unevenness(plan, turned)):
                        with self.subTest(kind=plan.kind, turned=turned), self.assertRaises(Twice):
                            ask()


class Unevenness(unittest.TestCase):
    def test_several_plans(self):
        for plan, rows in each_plan():
            for turned in some_turned(plan.rounds(), seed=5):
                with self.subTest(kind=plan.kind, tables=plan.tables, turned=turned):
                    self.assertEqual(unevenness(plan, turned), uneven(rows, turned))

    def test_by_beside(self):
        for kind, tables in (("straight", 5), ("skip", 4), ("shared", 4), ("ring", 4)):
            plan = Plan(kind, tables)
            for turned in some_turned(plan.rounds(), seed=6):
                found = 0
                for one, other in itertools.combinations(range(plan.pairs()), 2):
                    like, unlike = beside(plan, turned, one, other)
                    found += (like - unlike) ** 2
                self.assertEqual(unevenness(plan, turned), found)

    def test_the_same_where_all_other_rounds_are_turned(self):
        for plan, _ in each_plan():
            for turned in some_turned(plan.rounds(), seed=7):
                others = [at for at in range(plan.rounds()) if at not in turned]
                self.assertEqual(unevenness(plan, others), unevenness(plan, turned))

    def test_written_ones(self):
        self.assertEqual(unevenness(Plan("straight", 3), []), 6 * 9 + 9 * 4)
        self.assertEqual(unevenness(Plan("ring", 4), []), 0)


class Evenest(unittest.TestCase):
    def test_by_trying_all(self):
        for kind, tables in SHORT:
            rows = rows_of(kind, tables)
            lists = [list(some) for n in range(len(rows) + 1) for some in itertools.combinations(range(len(rows)), n)]
            tried = [(uneven(rows, turned), turned) for turned in sorted(lists)]
            fewest = min(found for found, _ in tried)
            expected = [turned for found, turned in tried if found == fewest][0]
            with self.subTest(kind=kind, tables=tables):
                self.assertEqual(evenest(Plan(kind, tables)), expected)

    def test_each_kind_is_among_the_short_ones(self):
        self.assertEqual({kind for kind, _ in SHORT}, {"straight", "skip", "shared", "ring"})
        self.assertEqual(sorted(LONG), [("ring", 5), ("ring", 6), ("shared", 8), ("straight", 9)])

    def test_a_told_list_changed(self):
        for kind, tables in SHORT:
            plan = Plan(kind, tables)
            told = evenest(plan)
            kept = list(told)
            self.assertIs(type(told), list)
            told.append(99)
            told.reverse()
            self.assertEqual(evenest(plan), kept)
            self.assertEqual(plan.rows(), rows_of(kind, tables))

    def test_too_many(self):
        for kind, tables in LONG:
            with self.subTest(kind=kind, tables=tables), self.assertRaises(TooMany) as caught:
                evenest(Plan(kind, tables))
            self.assertEqual(caught.exception.word, "too many")


if __name__ == "__main__":
    unittest.main()

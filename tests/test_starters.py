"""Rings, starters and adders, held against what is found by trying everything.

The checks here build starters from one pair for each difference, and adders from all orders of the
ring's numbers, so that they share no way of searching with the program.
"""

import copy
import itertools
import random
import unittest

from byestand.errors import BadRing, NoStarter
from byestand.starters import first_adder, is_adder, is_starter, planned, starters

RINGS = (3, 5, 7, 9, 11)
FAR = 10 ** 60 - 1
NO_RINGS = (-FAR, -11, -7, -4, -3, -2, -1, 0, 1, 2, 4, 6, 8, 10, 12, 13, 14, 15, 101, FAR - 1, FAR)

STARTERS = {
    3: [[(1, 2)]],
    5: [[(1, 4), (2, 3)]],
    7: [[(1, 3), (2, 6), (4, 5)], [(1, 5), (2, 3), (4, 6)], [(1, 6), (2, 5), (3, 4)]],
}
ADDERS = {3: [None], 5: [None], 7: [[2, 4, 1], [3, 6, 5], [2, 4, 1]]}
HOW_MANY = {3: 1, 5: 1, 7: 3, 9: 9, 11: 25}
PLANNED = {
    7: ([(1, 3), (2, 6), (4, 5)], [2, 4, 1]),
    9: ([(1, 2), (3, 7), (4, 6), (5, 8)], [5, 4, 2, 7]),
    11: ([(1, 2), (3, 6), (4, 8), (5, 10), (7, 9)], [3, 9, 1, 4, 5]),
}


def all_starters(m):
    choices = []
    for gap in range(1, m // 2 + 1):
        places = [(x, (x + gap) % m) for x in range(1, m) if (x + gap) % m != 0]
        choices.append([tuple(sorted(place)) for place in places])
    found = []
    for pairs in itertools.product(*choices):
        if len({number for pair in pairs for number in pair}) == m - 1:
            found.append(sorted(pairs))
    return sorted(found)


def all_adders(m, pairs):
    found = []
    for adds in itertools.permutations(range(1, m), len(pairs)):
        left = {(b - number) % m for (x, y), b in zip(pairs, adds) for number in (x, y)}
        if 0 not in left and len(left) == 2 * len(pairs):
            found.append(list(adds))
    return found


TRIED = {m: all_starters(m) for m in RINGS}
ADDERS_TRIED = {(m, tuple(pairs)): all_adders(m, pairs) for m in RINGS for pairs in TRIED[m]}


def each_starter():
    return [(m, pairs) for m in RINGS for pairs in TRIED[m]]


def with_number(pairs, at, side, number):
    bent = [list(pair) for pair in pairs]
    bent[at][side] = number
    return [tuple(pair) for pair in bent]


def swapped(things, one, other):
    bent = list(things)
    bent[one], bent[other] = bent[other], bent[one]
    return bent


def bent_starters(m, pairs):
    places = range(len(pairs))
    numbers = list(range(-2, m + 3)) + [2 * m + 1, -m, 10 ** 40, -(10 ** 40), FAR, -FAR]
    for at in places:
        x, y = pairs[at]
        yield pairs[:at] + [(y, x)] + pairs[at + 1:]
        yield pairs[:at] + pairs[at + 1:]
        yield pairs[:at] + [pairs[at]] + pairs[at:]
        yield pairs + [pairs[at]]
        yield pairs[:at] + [(x + m, y + m)] + pairs[at + 1:]
        for side, number in itertools.product((0, 1), numbers):
            yield with_number(pairs, at, side, number)
            yield sorted(with_number(pairs, at, side, number))
    for one, other in itertools.combinations(places, 2):
        yield swapped(pairs, one, other)
        for side in (0, 1):
            taken, given = pairs[one][1], pairs[other][side]
            exchanged = with_number(with_number(pairs, one, 1, given), other, side, taken)
            yield exchanged
            yield sorted([tuple(sorted(pair)) for pair in exchanged])
    yield pairs + [(0, m)]
    yield [(0, m)] + pairs


def bent_adders(m, adds):
    places = range(len(adds))
    numbers = list(range(-m, 2 * m + 1)) + [10 ** 40, -(10 ** 40), FAR, -FAR]
    for at in places:
        yield adds[:at] + adds[at + 1:]
        yield adds[:at]
        yield adds[at + 1:]
        for number in numbers:
            yield adds[:at] + [number] + adds[at + 1:]
    for one, other in itertools.combinations(places, 2):
        yield swapped(adds, one, other)
    for number in numbers:
        yield adds + [number]
        yield [number] + adds


class Rings(unittest.TestCase):
    def test_numbers_that_are_no_ring_are_refused_first(self):
        for m in NO_RINGS:
            for ask in (
                lambda: is_starter(m, [(1, 2)]),
                lambda: is_starter(m, []),
                lambda: is_starter(m, [(1, 4), (2, 3)]),
                lambda: starters(m),
                lambda: is_adder(m, [(1, 2)], [1]),
                lambda: is_adder(m, [(1, 2)], []),
                lambda: is_adder(m, [(1, 3), (2, 6), (4, 5)], [2, 4, 1]),
                lambda: first_adder(m, [(1, 2)]),
                lambda: first_adder(m, [(1, 3), (2, 6), (4, 5)]),
                lambda: planned(m),
            ):
                with self.subTest(m), self.assertRaises(BadRing) as caught:
                    ask()
                self.assertEqual(caught.exception.word, "bad ring")

    def test_each_ring_is_taken(self):
        for m in RINGS:
            self.assertTrue(starters(m))


class Starters(unittest.TestCase):
    def test_the_whole_rising_list(self):
        for m in RINGS:
            with self.subTest(m):
                self.assertEqual(starters(m), TRIED[m])
                self.assertEqual(len(starters(m)), HOW_MANY[m])
        for m, lists in STARTERS.items():
            self.assertEqual(starters(m), lists)

    def test_kinds(self):
        for m in RINGS:
            answer = starters(m)
            self.assertIs(type(answer), list)
            for pairs in answer:
                self.assertIs(type(pairs), list)
                self.assertEqual({type(pair) for pair in pairs}, {tuple})

    def test_each_is_a_starter(self):
        for m, pairs in each_starter():
            self.assertIs(is_starter(m, pairs), True)
        for m in RINGS:
            for pairs in starters(m):
                self.assertIs(is_starter(m, pairs), True)

    def test_a_starter_of_another_ring_is_none(self):
        for m, pairs in each_starter():
            for other in RINGS:
                self.assertIs(is_starter(other, pairs), m == other)

    def test_bent_ones(self):
        for m, pairs in each_starter():
            for bent in bent_starters(m, pairs):
                self.assertIs(is_starter(m, bent), bent in TRIED[m], (m, bent))

    def test_written_bent_ones(self):
        self.assertIs(is_starter(5, [(1, 4), (2, 3)]), True)
        self.assertIs(is_starter(5, [(2, 3), (1, 4)]), False)
        self.assertIs(is_starter(5, [(4, 1), (2, 3)]), False)
        self.assertIs(is_starter(5, [(1, 4), (3, 2)]), False)
        self.assertIs(is_starter(5, [(1, 2), (3, 4)]), False)
        self.assertIs(is_starter(5, [(1, 9), (2, 3)]), False)
        self.assertIs(is_starter(5, [(-4, 4), (2, 3)]), False)
        self.assertIs(is_starter(5, [(0, 4), (2, 3)]), False)
        self.assertIs(is_starter(5, [(1, 5), (2, 3)]), False)
        self.assertIs(is_starter(5, [(1, 4)]), False)
        self.assertIs(is_starter(5, [(1, 4), (1, 4), (2, 3)]), False)

    def test_without_pairs(self):
        for m in RINGS:
            self.assertIs(is_starter(m, []), False)

    def test_any_pairs(self):
        chance = random.Random(5)
        for m in RINGS:
            for _ in range(600):
                numbers = list(range(1, m))
                chance.shuffle(numbers)
                whole = [tuple(sorted(numbers[at:at + 2])) for at in range(0, m - 1, 2)]
                free = [(chance.randrange(-1, m + 1), chance.randrange(-1, m + 1)) for _ in range(m // 2)]
                for pairs in (whole, sorted(whole), free, sorted(free)):
                    self.assertIs(is_starter(m, pairs), pairs in TRIED[m], (m, pairs))

    def test_what_is_handed_in_stays(self):
        for m, pairs in each_starter():
            for handed in (pairs[::-1], pairs[1:], pairs, [(y, x) for x, y in pairs]):
                kept = copy.deepcopy(handed)
                is_starter(m, handed)
                self.assertEqual(handed, kept)

    def test_a_told_list_changed(self):
        for m in RINGS:
            told = starters(m)
            told[0].append((0, 0))
            told[-1][0] = (9, 9)
            del told[1:]
            self.assertEqual(starters(m), TRIED[m])


class Adders(unittest.TestCase):
    def test_each_adder_is_one(self):
        for (m, pairs), lists in ADDERS_TRIED.items():
            for adds in lists:
                self.assertIs(is_adder(m, list(pairs), adds), True)

    def test_all_orders(self):
        for m in (3, 5, 7, 9):
            for pairs in TRIED[m]:
                good = ADDERS_TRIED[m, tuple(pairs)]
                for adds in itertools.permutations(range(m), len(pairs)):
                    self.assertIs(is_adder(m, pairs, list(adds)), list(adds) in good, (m, pairs, adds))

    def test_bent_ones(self):
        for m, pairs in each_starter():
            good = ADDERS_TRIED[m, tuple(pairs)]
            for adds in good[:8] + good[-3:] + [list(range(1, len(pairs) + 1))]:
                for bent in bent_adders(m, adds):
                    self.assertIs(is_adder(m, pairs, bent), bent in good, (m, pairs, bent))

    def test_written_bent_ones(self):
        pairs = [(1, 3), (2, 6), (4, 5)]
        self.assertIs(is_adder(7, pairs, [2, 4, 1]), True)
        for adds in ([], [2], [2, 4], [2, 4, 1, 3], [9, 4, 1], [2, 4, 8], [2, 4, -6], [0, 4, 1], [2, 4, 7],
                     [4, 2, 1], [2, 2, 1], [3, 4, 1], [1, 1, 1], [2 + 7 * 10 ** 58, 4, 1]):
            self.assertIs(is_adder(7, pairs, adds), False, adds)

    def test_the_adders_own_numbers_are_unlike(self):
        """Lists whose differences are all good, but in which a number stands twice."""
        seen = 0
        for m, pairs in each_starter():
            for adds in itertools.product(range(1, m), repeat=len(pairs)) if m < 11 else []:
                left = [(b - number) % m for pair, b in zip(pairs, adds) for number in pair]
                if len(set(adds)) < len(adds) and 0 not in left and len(set(left)) == len(left):
                    seen += 1
                    self.assertIs(is_adder(m, pairs, list(adds)), False)
        self.assertGreater(seen, 0)

    def test_without_numbers(self):
        for m, pairs in each_starter():
            self.assertIs(is_adder(m, pairs, []), False)

    def test_what_is_handed_in_stays(self):
        for m, pairs in each_starter():
            for adds in (list(range(m, m - len(pairs), -1)), [], ADDERS_TRIED[m, tuple(pairs)][:1]):
                handed = adds[0] if adds and isinstance(adds[0], list) else adds
                kept = copy.deepcopy((pairs, handed))
                is_adder(m, pairs, handed)
                self.assertEqual((pairs, handed), kept)


class FirstAdders(unittest.TestCase):
    def test_the_first_one_or_none(self):
        for m, pairs in each_starter():
            with self.subTest(m=m, pairs=pairs):
                self.assertEqual(first_adder(m, pairs), min(ADDERS_TRIED[m, tuple(pairs)], default=None))
        for m, lists in ADDERS.items():
            self.assertEqual([first_adder(m, pairs) for pairs in STARTERS[m]], lists)

    def test_some_starters_have_none(self):
        self.assertIsNone(first_adder(3, [(1, 2)]))
        self.assertIsNone(first_adder(5, [(1, 4), (2, 3)]))
        self.assertIsNone(first_adder(9, [(1, 2), (3, 6), (4, 8), (5, 7)]))

    def test_what_is_handed_in_stays_and_is_not_kept(self):
        for m, pairs in each_starter():
            handed = list(pairs)
            told = first_adder(m, handed)
            self.assertEqual(handed, pairs)
            handed.clear()
            self.assertEqual(told, first_adder(m, list(pairs)))

    def test_a_told_list_changed(self):
        for m, pairs in each_starter():
            told = first_adder(m, pairs)
            if told is not None:
                kept = list(told)
                told[0] = 0
                told.append(99)
                self.assertEqual(first_adder(m, pairs), kept)


class Planned(unittest.TestCase):
    def test_the_first_starter_that_has_an_adder(self):
        for m, pair in PLANNED.items():
            self.assertEqual(planned(m), pair)
            told = [(pairs, adds[0]) for pairs in TRIED[m] for adds in [ADDERS_TRIED[m, tuple(pairs)]] if adds]
            self.assertEqual(planned(m), told[0])

    def test_no_starter(self):
        for m in (3, 5):
            with self.subTest(m), self.assertRaises(NoStarter) as caught:
                planned(m)
            self.assertEqual(caught.exception.word, "no starter")

    def test_kinds(self):
        for m in PLANNED:
            self.assertIs(type(planned(m)), tuple)
            self.assertEqual([type(part) for part in planned(m)], [list, list])
            self.assertEqual({type(pair) for pair in planned(m)[0]}, {tuple})

    def test_told_lists_changed(self):
        for m, pair in PLANNED.items():
            pairs, adds = planned(m)
            pairs.clear()
            adds.reverse()
            self.assertEqual(planned(m), pair)
            self.assertEqual(starters(m), TRIED[m])
            self.assertEqual(first_adder(m, pair[0]), pair[1])


if __name__ == "__main__":
    unittest.main()

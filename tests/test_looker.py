"""Faults of rows, held against a look at every two places of the rows."""

import copy
import itertools
import random
import unittest

from byestand.looker import faults

from moves import SIXTY, each_plan


def looked_over(rows):
    """All faults, each told by the words of the document from the places ahead of it."""
    places = [(at, table) + cell for at, cells in enumerate(rows) for table, cell in enumerate(cells)]
    told = []
    for many, (at, table, first, second, number) in enumerate(places):
        ahead = places[:many]
        lower = [place for place in ahead if place[0] == at]
        if any(first in place[2:4] for place in lower):
            told.append(("sits", at, table, first))
        if first == second or any(second in place[2:4] for place in lower):
            told.append(("sits", at, table, second))
        if any(place[4] == number for place in lower):
            told.append(("shares", at, table, number))
        for pair in dict.fromkeys((first, second)):
            if any(place[4] == number and pair in place[2:4] for place in ahead):
                told.append(("again", at, table, pair))
        if any(sorted(place[2:4]) == sorted((first, second)) for place in ahead):
            told.append(("met", at, table))
    return told


def with_cell(rows, at, table, cell):
    bent = [list(cells) for cells in rows]
    bent[at][table] = cell
    return bent


def turned(rows, rounds):
    return [[(b, a, number) if at in rounds else (a, b, number) for a, b, number in cells]
            for at, cells in enumerate(rows)]


def exchanged(things, one, other):
    bent = list(things)
    bent[one], bent[other] = bent[other], bent[one]
    return bent


def bent_cells(rows, chance, many):
    """Rows with one pair or set made another number: one that is there, one beyond, far, below 0."""
    numbers = (0, 1, len(rows[0]), 2 * len(rows[0]) - 1, 2 * len(rows[0]), 40, -1, -7, SIXTY, -SIXTY)
    for _ in range(many):
        at, table = chance.randrange(len(rows)), chance.randrange(len(rows[0]))
        cell = list(rows[at][table])
        cell[chance.randrange(3)] = chance.choice(numbers)
        yield with_cell(rows, at, table, tuple(cell))


def bent_rounds(rows, chance):
    """Rows with tables or rounds exchanged, told twice or left out."""
    for at in range(len(rows)):
        one, other = chance.sample(range(len(rows[at])), 2)
        yield rows[:at] + [exchanged(rows[at], one, other)] + rows[at + 1:]
        yield rows[:at] + [rows[at][:one] + rows[at][one + 1:]] + rows[at + 1:]
        yield rows[:at] + [rows[at]] + rows[at:]
        yield rows + [rows[at]]
        yield rows[:at] + [rows[at] + [rows[at][one]]] + rows[at + 1:]
        yield rows[:at] + [[]] + rows[at:]
        yield exchanged(rows, at, chance.randrange(len(rows)))


def few_numbers(chance):
    """Rows of up to 20 rounds and 12 tables, of numbers from few."""
    numbers = chance.choice((range(2), range(4), range(10), range(24), range(-3, 40), (0, 5, -1, SIXTY, -SIXTY)))
    sets = chance.choice((numbers, range(3), range(12), range(60)))
    tables = chance.randrange(1, 13)
    uneven = chance.random() < 0.2
    rows = []
    for _ in range(chance.randrange(1, 21)):
        many = chance.randrange(tables + 1) if uneven else tables
        rows.append([(chance.choice(numbers), chance.choice(numbers), chance.choice(sets)) for _ in range(many)])
    return rows


def plan_faults(plan):
    """What a plan's own rows are told: in `shared` the last table has the first table's set."""
    if plan.kind != "shared":
        return []
    return [("shares", at, plan.tables - 1, at) for at in range(plan.rounds())]


class Looks(unittest.TestCase):
    def check(self, rows):
        kept = copy.deepcopy(rows)
        told = faults(rows)
        self.assertEqual(told, looked_over(rows), rows)
        self.assertEqual(rows, kept)
        return told

    def test_plans_as_they_are(self):
        for plan, rows in each_plan():
            self.assertEqual(faults(plan.rows()), plan_faults(plan), (plan.kind, plan.tables))
            self.check(rows)

    def test_plans_with_rounds_turned(self):
        chance = random.Random(11)
        for plan, rows in each_plan():
            for _ in range(10):
                rounds = chance.sample(range(len(rows)), chance.randrange(len(rows) + 1))
                self.assertEqual(self.check(turned(rows, rounds)), plan_faults(plan))

    def test_plans_with_cells_bent(self):
        chance = random.Random(12)
        for _, rows in each_plan():
            for bent in bent_cells(rows, chance, 40):
                self.check(bent)

    def test_plans_with_several_cells_bent(self):
        chance = random.Random(13)
        for _, rows in each_plan():
            for bent in bent_cells(rows, chance, 8):
                for _ in range(4):
                    bent = next(bent_cells(bent, chance, 1))
                    self.check(bent)

    def test_plans_with_tables_and_rounds_bent(self):
        chance = random.Random(14)
        for _, rows in each_plan():
            for bent in bent_rounds(rows, chance):
                self.check(bent)

    def test_a_round_told_twice(self):
        for plan, rows in each_plan():
            told = faults(rows + [rows[0]])[len(plan_faults(plan)):]
            expected = []
            for table, (first, second, number) in enumerate(rows[0]):
                at = len(rows)
                if plan.kind == "shared" and table == plan.tables - 1:
                    expected.append(("shares", at, table, number))
                expected += [("again", at, table, first), ("again", at, table, second), ("met", at, table)]
            self.assertEqual(told, expected)

    def test_numbers_from_few(self):
        chance = random.Random(15)
        seen, together = set(), 0
        for _ in range(150):
            told = self.check(few_numbers(chance))
            seen |= {fault[0] for fault in told}
            at_one = {}
            for fault in told:
                at_one.setdefault(fault[1:3], []).append(fault[0])
            together += sum(words == ["sits", "sits", "shares", "again", "again", "met"] for words in at_one.values())
        self.assertEqual(seen, {"sits", "shares", "again", "met"})
        self.assertGreater(together, 0)

    def test_small_rows_one_and_all(self):
        cells = list(itertools.product((0, 1), (0, 1), (0, 1)))
        for one, two, three in itertools.product(cells, repeat=3):
            self.check([[one, two, three]])
            self.check([[one, two], [three]])
            self.check([[one], [two, three]])
            self.check([[one], [], [two], [three]])

    def test_the_largest_rows(self):
        for rows in ([[(0, 0, 0)] * 12] * 20, [[(table, 12 + table, table) for table in range(12)]] * 20):
            self.check([list(cells) for cells in rows])
        apart = [[(1000 * at + table, -1 - 1000 * at - table, 12 * at + table) for table in range(12)]
                 for at in range(20)]
        self.assertEqual(self.check(apart), [])


class Written(unittest.TestCase):
    def test_without_rounds_or_tables(self):
        self.assertEqual(faults([]), [])
        self.assertEqual(faults([[]]), [])
        self.assertEqual(faults([[], [], []]), [])
        self.assertEqual(faults([[], [(1, 1, 1)], []]), [("sits", 1, 0, 1)])

    def test_sits(self):
        self.assertEqual(faults([[(0, 1, 0), (0, 2, 1)]]), [("sits", 0, 1, 0)])
        self.assertEqual(faults([[(0, 1, 0), (2, 0, 1)]]), [("sits", 0, 1, 0)])
        self.assertEqual(faults([[(0, 1, 0), (2, 1, 1)]]), [("sits", 0, 1, 1)])
        self.assertEqual(faults([[(0, 1, 0), (2, 3, 1)], [(0, 2, 2), (3, 1, 3)]]), [])
        self.assertEqual(faults([[(0, 1, 0), (2, 3, 1), (3, 0, 2)]]), [("sits", 0, 2, 3), ("sits", 0, 2, 0)])

    def test_one_pair_at_both_sides(self):
        self.assertEqual(faults([[(4, 4, 0)]]), [("sits", 0, 0, 4)])
        self.assertEqual(faults([[(4, 1, 0), (4, 4, 1)]]), [("sits", 0, 1, 4), ("sits", 0, 1, 4)])
        self.assertEqual(faults([[(4, 4, 0)], [(4, 5, 1)]]), [("sits", 0, 0, 4)])
        self.assertEqual(faults([[(4, 5, 0)], [(4, 4, 1)]]), [("sits", 1, 0, 4)])
        self.assertEqual(
            faults([[(4, 4, 0)], [(4, 4, 0)]]),
            [("sits", 0, 0, 4), ("sits", 1, 0, 4), ("again", 1, 0, 4), ("met", 1, 0)],
        )

    def test_shares(self):
        self.assertEqual(faults([[(0, 1, 7), (2, 3, 7)]]), [("shares", 0, 1, 7)])
        self.assertEqual(faults([[(0, 1, 7), (2, 3, 7), (4, 5, 7)]]), [("shares", 0, 1, 7), ("shares", 0, 2, 7)])
        self.assertEqual(faults([[(0, 1, 7)], [(2, 3, 7)]]), [])

    def test_again(self):
        self.assertEqual(faults([[(0, 1, 5)], [(2, 0, 5)]]), [("again", 1, 0, 0)])
        self.assertEqual(faults([[(0, 1, 5)], [(1, 2, 5)]]), [("again", 1, 0, 1)])
        self.assertEqual(faults([[(0, 1, 5), (2, 3, 6)], [(3, 1, 5), (2, 0, 6)]]),
                         [("again", 1, 0, 1), ("again", 1, 1, 2)])
        self.assertEqual(faults([[(0, 1, 5), (0, 2, 5)]]), [("sits", 0, 1, 0), ("shares", 0, 1, 5), ("again", 0, 1, 0)])
        self.assertEqual(faults([[(0, 1, 5)], [(2, 3, 5)]]), [])

    def test_met(self):
        self.assertEqual(faults([[(0, 1, 5)], [(0, 1, 6)]]), [("met", 1, 0)])
        self.assertEqual(faults([[(0, 1, 5)], [(1, 0, 6)]]), [("met", 1, 0)])
        self.assertEqual(faults([[(0, 1, 5)], [(1, 0, 6)], [(0, 1, 7)]]), [("met", 1, 0), ("met", 2, 0)])
        self.assertEqual(faults([[(0, 1, 5), (1, 0, 6)]]), [("sits", 0, 1, 1), ("sits", 0, 1, 0), ("met", 0, 1)])

    def test_all_at_one_table(self):
        self.assertEqual(faults([[(8, 9, 3), (9, 8, 3)]]), [
            ("sits", 0, 1, 9), ("sits", 0, 1, 8), ("shares", 0, 1, 3), ("again", 0, 1, 9), ("again", 0, 1, 8),
            ("met", 0, 1),
        ])

    def test_pairs_and_sets_are_not_mixed_up(self):
        self.assertEqual(faults([[(0, 1, 2), (3, 4, 0)], [(2, 5, 1), (6, 7, 3)]]), [])

    def test_far_numbers(self):
        self.assertEqual(faults([[(SIXTY, -SIXTY, SIXTY)], [(-SIXTY, SIXTY, SIXTY)]]),
                         [("again", 1, 0, -SIXTY), ("again", 1, 0, SIXTY), ("met", 1, 0)])
        self.assertEqual(faults([[(SIXTY, 1, 2)], [(SIXTY - 1, 1, 3)]]), [])

    def test_kinds_and_a_told_list_changed(self):
        rows = [[(8, 9, 3), (9, 8, 3)], [(8, 8, 3)]]
        told = faults(rows)
        kept = list(told)
        self.assertIs(type(told), list)
        self.assertEqual({type(fault) for fault in told}, {tuple})
        told.clear()
        self.assertEqual(faults(rows), kept)
        kept.clear()
        self.assertNotEqual(faults(rows), kept)

    def test_rows_changed_behind_a_call(self):
        rows = [[(0, 1, 5)], [(2, 0, 5)]]
        told = faults(rows)
        rows[1].clear()
        self.assertEqual(told, [("again", 1, 0, 0)])
        self.assertEqual(faults(rows), [])


if __name__ == "__main__":
    unittest.main()

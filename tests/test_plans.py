"""Plans of all kinds, held against rows that are moved from round to round and against written ones."""

import copy
import itertools
import unittest

from byestand import starters
from byestand.errors import BadPlan, NoPair, NoRound, NoStarter, NoTable
from byestand.plans import Plan

from moves import EACH, FAR, SIXTY, TABLES_OF, beside, each_plan, rows_of

KINDS = tuple(TABLES_OF)
NO_KINDS = (
    "", " ", "\n", "Ring", "RING", "ring ", " ring", "rin", "rings", "ring\n", "r", "Straight", "straigh", "straights",
    "straight ", "skip ", "Skip", "ski", "skips", "share", "Shared", "shared\n", " shared", "kind", "straight skip",
    "first", "two", "0", "~" * 50,
)

WRITTEN = {
    ("straight", 3): [
        [(0, 3, 0), (1, 4, 1), (2, 5, 2)],
        [(0, 5, 1), (1, 3, 2), (2, 4, 0)],
        [(0, 4, 2), (1, 5, 0), (2, 3, 1)],
    ],
    ("skip", 4): [
        [(0, 4, 0), (1, 5, 1), (2, 6, 2), (3, 7, 3)],
        [(0, 7, 1), (1, 4, 2), (2, 5, 3), (3, 6, 0)],
        [(0, 5, 2), (1, 6, 3), (2, 7, 0), (3, 4, 1)],
    ],
    ("shared", 4): [
        [(0, 4, 0), (1, 5, 1), (2, 6, 3), (3, 7, 0)],
        [(0, 7, 1), (1, 4, 2), (2, 5, 0), (3, 6, 1)],
        [(0, 6, 2), (1, 7, 3), (2, 4, 1), (3, 5, 2)],
        [(0, 5, 3), (1, 6, 0), (2, 7, 2), (3, 4, 3)],
    ],
    ("ring", 4): [
        [(7, 0, 0), (1, 3, 2), (2, 6, 4), (4, 5, 1)],
        [(7, 1, 1), (2, 4, 3), (3, 0, 5), (5, 6, 2)],
        [(7, 2, 2), (3, 5, 4), (4, 1, 6), (6, 0, 3)],
        [(7, 3, 3), (4, 6, 5), (5, 2, 0), (0, 1, 4)],
        [(7, 4, 4), (5, 0, 6), (6, 3, 1), (1, 2, 5)],
        [(7, 5, 5), (6, 1, 0), (0, 4, 2), (2, 3, 6)],
        [(7, 6, 6), (0, 2, 1), (1, 5, 3), (3, 4, 0)],
    ],
}
# For each plan: rounds, sets, pairs.
COUNTS = {
    ("straight", 3): (3, 3, 6), ("straight", 5): (5, 5, 10), ("straight", 7): (7, 7, 14), ("straight", 9): (9, 9, 18),
    ("skip", 4): (3, 4, 8), ("skip", 6): (5, 6, 12), ("skip", 8): (7, 8, 16),
    ("shared", 4): (4, 4, 8), ("shared", 6): (6, 6, 12), ("shared", 8): (8, 8, 16),
    ("ring", 4): (7, 7, 8), ("ring", 5): (9, 9, 10), ("ring", 6): (11, 11, 12),
}


class Makes(unittest.TestCase):
    def refused(self, error, word, kind, tables):
        with self.subTest(kind=kind, tables=tables), self.assertRaises(error) as caught:
            Plan(kind, tables)
        self.assertIs(type(caught.exception), error)
        self.assertEqual(caught.exception.word, word)

    def test_fields_and_counts(self):
        self.assertEqual(sorted(COUNTS), sorted(EACH))
        for (kind, tables), counts in COUNTS.items():
            with self.subTest(kind=kind, tables=tables):
                plan = Plan(kind, tables)
                self.assertEqual((plan.kind, plan.tables), (kind, tables))
                self.assertEqual((plan.rounds(), plan.sets(), plan.pairs()), counts)
                self.assertLessEqual({"kind", "tables"}, set(vars(plan)))

    def test_numbers_of_tables_that_a_kind_does_not_have(self):
        for kind in KINDS:
            good = TABLES_OF[kind] + ((2, 3) if kind == "ring" else ())
            for tables in list(range(-12, 40)) + list(FAR) + [-SIXTY + 1, SIXTY - 1]:
                if tables not in good:
                    self.refused(BadPlan, "bad plan", kind, tables)

    def test_texts_that_are_no_kind(self):
        for kind in NO_KINDS:
            for tables in list(range(-1, 13)) + [SIXTY, -SIXTY]:
                self.refused(BadPlan, "bad plan", kind, tables)

    def test_rings_without_a_starter(self):
        self.refused(NoStarter, "no starter", "ring", 2)
        self.refused(NoStarter, "no starter", "ring", 3)


class Fields(unittest.TestCase):
    def test_each_pair(self):
        for plan, _ in each_plan():
            told = [plan.field(pair) for pair in range(plan.pairs())]
            expected = [0] * plan.pairs() if plan.kind == "ring" else [0] * plan.tables + [1] * plan.tables
            self.assertEqual(told, expected, (plan.kind, plan.tables))

    def test_the_first_field_sits_first_in_plans_for_two(self):
        for plan, rows in each_plan():
            for first, second, _ in itertools.chain(*rows):
                fields = (plan.field(first), plan.field(second))
                self.assertEqual(fields, (0, 0) if plan.kind == "ring" else (0, 1))

    def test_no_pair(self):
        for plan, _ in each_plan():
            for pair in beside(plan.pairs()):
                with self.subTest(kind=plan.kind, tables=plan.tables, pair=pair), self.assertRaises(NoPair):
                    plan.field(pair)


class Seats(unittest.TestCase):
    def test_each_round_and_table(self):
        for plan, rows in each_plan():
            for at, cells in enumerate(rows):
                for table, cell in enumerate(cells):
                    with self.subTest(kind=plan.kind, tables=plan.tables, at=at, table=table):
                        self.assertEqual(plan.seat(at, table), cell)
                        self.assertIs(type(plan.seat(at, table)), tuple)

    def test_written_ones(self):
        for (kind, tables), rows in WRITTEN.items():
            self.assertEqual(rows_of(kind, tables), rows)
            self.assertEqual(Plan(kind, tables).rows(), rows)

    def test_no_round_and_no_table(self):
        for plan, rows in each_plan():
            for at in beside(len(rows)):
                for table in tuple(range(plan.tables)) + beside(plan.tables):
                    with self.subTest(kind=plan.kind, at=at, table=table), self.assertRaises(NoRound):
                        plan.seat(at, table)
            for at in range(len(rows)):
                for table in beside(plan.tables):
                    with self.subTest(kind=plan.kind, at=at, table=table), self.assertRaises(NoTable):
                        plan.seat(at, table)


class Rows(unittest.TestCase):
    def test_as_seats_tell_them(self):
        for plan, rows in each_plan():
            told = plan.rows()
            self.assertEqual(told, rows, (plan.kind, plan.tables))
            self.assertEqual(len(told), plan.rounds())
            for at, cells in enumerate(told):
                self.assertEqual(cells, [plan.seat(at, table) for table in range(plan.tables)])

    def test_kinds(self):
        for plan, _ in each_plan():
            told = plan.rows()
            self.assertIs(type(told), list)
            self.assertEqual({type(cells) for cells in told}, {list})
            self.assertEqual({type(cell) for cells in told for cell in cells}, {tuple})
            self.assertEqual({type(number) for cells in told for cell in cells for number in cell}, {int})

    def test_all_numbers_are_of_the_plan(self):
        for plan, _ in each_plan():
            for first, second, number in itertools.chain(*plan.rows()):
                self.assertIn(first, range(plan.pairs()))
                self.assertIn(second, range(plan.pairs()))
                self.assertIn(number, range(plan.sets()))

    def test_told_rows_changed(self):
        for plan, rows in each_plan():
            told = plan.rows()
            told[0][0] = (99, 99, 99)
            told[1].clear()
            told[-1].append((0, 0, 0))
            self.assertEqual(plan.rows(), rows)
            told = plan.rows()
            told.reverse()
            del told[1:]
            self.assertEqual(plan.rows(), rows)
            self.assertEqual([plan.seat(at, 0) for at in range(plan.rounds())], [cells[0] for cells in rows])

    def test_rounds_of_one_told_list_are_lists_of_their_own(self):
        for plan, rows in each_plan():
            told = plan.rows()
            told[0].clear()
            self.assertEqual(told[1:], rows[1:])

    def test_asking_changes_nothing(self):
        for plan, rows in each_plan():
            kept = copy.deepcopy(vars(plan))
            for at in range(plan.rounds()):
                for table in range(plan.tables):
                    plan.seat(at, table)
            for pair in range(plan.pairs()):
                plan.field(pair)
            plan.rows()
            with self.assertRaises(NoRound):
                plan.seat(-1, 0)
            self.assertEqual(vars(plan), kept)
            self.assertEqual(plan.rows(), rows)

    def test_plans_have_nothing_to_do_with_one_another(self):
        plans = each_plan() + each_plan()
        for at in range(3):
            for plan, rows in plans:
                self.assertEqual(plan.seat(at, 1), rows[at][1])
        for plan, rows in reversed(plans):
            told = plan.rows()
            self.assertEqual(told, rows)
            told.clear()
        for plan, rows in plans:
            self.assertEqual(plan.rows(), rows)

    def test_a_starter_told_elsewhere_and_changed(self):
        for tables in TABLES_OF["ring"]:
            plan = Plan("ring", tables)
            pairs, adds = starters.planned(2 * tables - 1)
            pairs.clear()
            adds.clear()
            self.assertEqual(plan.rows(), rows_of("ring", tables))


class Holds(unittest.TestCase):
    """What is so in every plan."""

    def test_all_sit_once_in_each_round(self):
        for plan, _ in each_plan():
            for cells in plan.rows():
                seated = sorted(pair for first, second, _ in cells for pair in (first, second))
                self.assertEqual(seated, list(range(plan.pairs())), (plan.kind, plan.tables))

    def test_nobody_has_a_set_in_two_rounds(self):
        for plan, _ in each_plan():
            had = [(pair, cell[2]) for cells in plan.rows() for cell in cells for pair in cell[:2]]
            self.assertEqual(len(had), len(set(had)), (plan.kind, plan.tables))

    def test_no_two_meet_twice(self):
        for plan, _ in each_plan():
            met = [frozenset(cell[:2]) for cells in plan.rows() for cell in cells]
            self.assertEqual(len(met), len(set(met)), (plan.kind, plan.tables))

    def test_sets_are_at_one_table_but_in_shared(self):
        for plan, _ in each_plan():
            for at, cells in enumerate(plan.rows()):
                sets = [number for _, _, number in cells]
                if plan.kind == "shared":
                    self.assertEqual(sets[0], sets[-1])
                    sets.pop()
                    resting = (plan.tables // 2 + at) % plan.tables
                    self.assertEqual(set(range(plan.tables)) - set(sets), {resting})
                self.assertEqual(len(sets), len(set(sets)), (plan.kind, plan.tables, at))

    def test_each_two_meet_in_ring(self):
        for tables in TABLES_OF["ring"]:
            plan = Plan("ring", tables)
            met = {frozenset(cell[:2]) for cells in plan.rows() for cell in cells}
            self.assertEqual(met, {frozenset(two) for two in itertools.combinations(range(plan.pairs()), 2)})

    def test_the_first_field_stays(self):
        for plan, _ in each_plan():
            if plan.kind != "ring":
                for cells in plan.rows():
                    self.assertEqual([first for first, _, _ in cells], list(range(plan.tables)))


if __name__ == "__main__":
    unittest.main()

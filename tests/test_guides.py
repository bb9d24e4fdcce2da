"""Guides, ways and seats of all plans, held against the plans' rows."""

import copy
import unittest

from byestand.errors import BadSide, NoPair, NoRound, NoSet, NoTable
from byestand.guides import goes, guide, walked, way_of, where
from byestand.plans import Plan

from moves import FAR, beside, each_plan

SIDES = ("first", "second")
NO_SIDES = (
    "", " ", "First", "FIRST", "firs", "first ", " first", "first\n", "firsts", "irst", "f", "Second", "secon",
    "seconds", "second ", " second", "\nsecond", "third", "0", "1", "firstsecond", "first second",
)


def seats_of(rows, at):
    """Who sits on each seat of a round."""
    return {(table, side): pair for table, cell in enumerate(rows[at]) for side, pair in zip(SIDES, cell)}


def seat_in(rows, at, pair):
    found = [seat for seat, sitter in seats_of(rows, at).items() if sitter == pair]
    assert len(found) == 1
    return found[0]


def meeting_in(rows, at, pair):
    table, side = seat_in(rows, at, pair)
    first, second, number = rows[at][table]
    return (table, side, first + second - pair, number)


class Where(unittest.TestCase):
    def test_each_round_and_pair(self):
        for plan, rows in each_plan():
            for at in range(len(rows)):
                for pair in range(plan.pairs()):
                    with self.subTest(kind=plan.kind, tables=plan.tables, at=at, pair=pair):
                        self.assertEqual(where(plan, at, pair), seat_in(rows, at, pair))
                        self.assertIs(type(where(plan, at, pair)), tuple)

    def test_written_ones(self):
        self.assertEqual(where(Plan("straight", 3), 1, 5), (0, "second"))
        self.assertEqual(where(Plan("straight", 3), 2, 1), (1, "first"))
        self.assertEqual(where(Plan("skip", 4), 2, 4), (3, "second"))
        self.assertEqual(where(Plan("ring", 4), 6, 7), (0, "first"))
        self.assertEqual(where(Plan("ring", 4), 6, 5), (2, "second"))

    def test_no_round_ahead_of_no_pair(self):
        for plan, rows in each_plan():
            for at in beside(len(rows)):
                for pair in tuple(range(plan.pairs())) + beside(plan.pairs()):
                    with self.subTest(kind=plan.kind, at=at, pair=pair), self.assertRaises(NoRound):
                        where(plan, at, pair)
            for at in range(len(rows)):
                for pair in beside(plan.pairs()):
                    with self.subTest(kind=plan.kind, at=at, pair=pair), self.assertRaises(NoPair):
                        where(plan, at, pair)


class Guide(unittest.TestCase):
    def test_each_pair(self):
        for plan, rows in each_plan():
            for pair in range(plan.pairs()):
                with self.subTest(kind=plan.kind, tables=plan.tables, pair=pair):
                    told = guide(plan, pair)
                    self.assertEqual(told, [meeting_in(rows, at, pair) for at in range(len(rows))])
                    self.assertIs(type(told), list)
                    self.assertEqual({type(row) for row in told}, {tuple})

    def test_written_ones(self):
        self.assertEqual(guide(Plan("straight", 3), 3), [(0, "second", 0, 0), (1, "second", 1, 2), (2, "second", 2, 1)])
        self.assertEqual(guide(Plan("skip", 4), 1), [(1, "first", 5, 1), (1, "first", 4, 2), (1, "first", 6, 3)])
        self.assertEqual(guide(Plan("ring", 4), 0), [
            (0, "second", 7, 0), (2, "second", 3, 5), (3, "second", 6, 3), (3, "first", 1, 4), (1, "second", 5, 6),
            (2, "first", 4, 2), (1, "first", 2, 1),
        ])

    def test_the_other_pairs_guide_tells_the_same_meeting(self):
        for plan, rows in each_plan():
            for pair in range(plan.pairs()):
                for at, (table, side, other, number) in enumerate(guide(plan, pair)):
                    across = "second" if side == "first" else "first"
                    self.assertEqual(guide(plan, other)[at], (table, across, pair, number))

    def test_a_told_list_changed(self):
        for plan, rows in each_plan():
            for pair in range(plan.pairs()):
                told = guide(plan, pair)
                kept = list(told)
                told[0] = (9, "first", 9, 9)
                told.reverse()
                told.pop()
                self.assertEqual(guide(plan, pair), kept)

    def test_two_plans_by_turns(self):
        plans = each_plan()
        for (one, one_rows), (other, other_rows) in zip(plans, plans[1:]):
            for pair in range(min(one.pairs(), other.pairs())):
                told = guide(one, pair)
                self.assertEqual(guide(other, pair), [meeting_in(other_rows, at, pair) for at in range(other.rounds())])
                self.assertEqual(told, [meeting_in(one_rows, at, pair) for at in range(one.rounds())])
                self.assertEqual(guide(one, pair), told)

    def test_no_pair(self):
        for plan, _ in each_plan():
            for pair in beside(plan.pairs()):
                with self.subTest(kind=plan.kind, tables=plan.tables, pair=pair), self.assertRaises(NoPair):
                    guide(plan, pair)


class Ways(unittest.TestCase):
    def test_each_set(self):
        for plan, rows in each_plan():
            for number in range(plan.sets()):
                with self.subTest(kind=plan.kind, tables=plan.tables, number=number):
                    expected = []
                    for cells in rows:
                        expected.append([table for table, cell in enumerate(cells) if cell[2] == number])
                    told = way_of(plan, number)
                    self.assertEqual(told, expected)
                    self.assertIs(type(told), list)
                    self.assertEqual({type(tables) for tables in told}, {list})

    def test_written_ones(self):
        self.assertEqual(way_of(Plan("straight", 3), 0), [[0], [2], [1]])
        self.assertEqual(way_of(Plan("skip", 4), 0), [[0], [3], [2]])
        self.assertEqual(way_of(Plan("shared", 4), 0), [[0, 3], [2], [], [1]])
        self.assertEqual(way_of(Plan("ring", 4), 0), [[0], [], [], [2], [], [1], [3]])

    def test_two_tables_where_shared_and_none_where_resting(self):
        for tables in (4, 6, 8):
            plan = Plan("shared", tables)
            for number in range(tables):
                way = way_of(plan, number)
                self.assertEqual(way[number], [0, tables - 1])
                self.assertEqual(way[(number + tables // 2) % tables], [])
                self.assertEqual(sorted(len(there) for there in way), [0] + [1] * (tables - 2) + [2])

    def test_told_lists_changed(self):
        for plan, _ in each_plan():
            for number in range(plan.sets()):
                told = way_of(plan, number)
                kept = copy.deepcopy(told)
                for tables in told:
                    tables.append(77)
                told.reverse()
                told.pop()
                self.assertEqual(way_of(plan, number), kept)

    def test_no_list_is_told_twice_in_one_answer(self):
        for plan, _ in each_plan():
            for number in range(plan.sets()):
                told = way_of(plan, number)
                self.assertEqual(len({id(tables) for tables in told}), len(told))

    def test_no_set(self):
        for plan, _ in each_plan():
            for number in beside(plan.sets()):
                with self.subTest(kind=plan.kind, tables=plan.tables, number=number), self.assertRaises(NoSet):
                    way_of(plan, number)


class Goes(unittest.TestCase):
    def test_each_seat_in_each_round_but_the_last(self):
        for plan, rows in each_plan():
            for at in range(len(rows) - 1):
                for seat, pair in seats_of(rows, at).items():
                    with self.subTest(kind=plan.kind, tables=plan.tables, at=at, seat=seat):
                        told = goes(plan, at, seat)
                        self.assertEqual(told, seat_in(rows, at + 1, pair))
                        self.assertIs(type(told), tuple)

    def test_written_ones(self):
        self.assertEqual(goes(Plan("straight", 3), 0, (2, "second")), (0, "second"))
        self.assertEqual(goes(Plan("straight", 3), 1, (2, "first")), (2, "first"))
        self.assertEqual(goes(Plan("skip", 4), 0, (0, "second")), (1, "second"))
        self.assertEqual(goes(Plan("skip", 4), 1, (0, "second")), (2, "second"))
        self.assertEqual(goes(Plan("ring", 4), 0, (0, "first")), (0, "first"))
        self.assertEqual(goes(Plan("ring", 4), 0, (0, "second")), (2, "second"))

    def test_no_round_goes_first(self):
        for plan, rows in each_plan():
            for at in (len(rows) - 1,) + beside(len(rows)):
                for table in (0, plan.tables - 1, -1, plan.tables) + FAR:
                    for side in SIDES + NO_SIDES[:4]:
                        with self.subTest(kind=plan.kind, at=at, table=table, side=side):
                            with self.assertRaises(NoRound):
                                goes(plan, at, (table, side))

    def test_no_table_ahead_of_bad_side(self):
        for plan, rows in each_plan():
            for at in range(len(rows) - 1):
                for table in beside(plan.tables):
                    for side in SIDES + NO_SIDES[:4]:
                        with self.subTest(kind=plan.kind, at=at, table=table, side=side):
                            with self.assertRaises(NoTable):
                                goes(plan, at, (table, side))

    def test_bad_side(self):
        for plan, rows in each_plan():
            for at in (0, len(rows) - 2):
                for table in range(plan.tables):
                    for side in NO_SIDES:
                        with self.subTest(kind=plan.kind, at=at, table=table, side=side):
                            with self.assertRaises(BadSide):
                                goes(plan, at, (table, side))


class Walked(unittest.TestCase):
    def test_each_seat(self):
        for plan, rows in each_plan():
            for seat, pair in seats_of(rows, 0).items():
                with self.subTest(kind=plan.kind, tables=plan.tables, seat=seat):
                    told = walked(plan, seat)
                    self.assertEqual(told, [seat_in(rows, at, pair) for at in range(len(rows))])
                    self.assertEqual(told, [row[:2] for row in guide(plan, pair)])
                    self.assertEqual(told, [where(plan, at, pair) for at in range(plan.rounds())])
                    self.assertIs(type(told), list)
                    self.assertEqual({type(one) for one in told}, {tuple})

    def test_step_by_step(self):
        for plan, rows in each_plan():
            for seat in seats_of(rows, 0):
                steps = [seat]
                for at in range(plan.rounds() - 1):
                    steps.append(goes(plan, at, steps[-1]))
                self.assertEqual(walked(plan, seat), steps)

    def test_written_ones(self):
        self.assertEqual(walked(Plan("straight", 3), (1, "second")), [(1, "second"), (2, "second"), (0, "second")])
        self.assertEqual(walked(Plan("skip", 4), (0, "second")), [(0, "second"), (1, "second"), (3, "second")])
        self.assertEqual(walked(Plan("shared", 4), (3, "first")), [(3, "first")] * 4)

    def test_all_together_fill_all_seats_once(self):
        for plan, rows in each_plan():
            ways = [walked(plan, seat) for seat in seats_of(rows, 0)]
            for at in range(plan.rounds()):
                seats = [(table, side) for table in range(plan.tables) for side in SIDES]
                self.assertEqual(sorted(way[at] for way in ways), sorted(seats))

    def test_a_told_list_changed(self):
        for plan, rows in each_plan():
            for seat in seats_of(rows, 0):
                told = walked(plan, seat)
                kept = list(told)
                told[0] = (9, "second")
                told.clear()
                self.assertEqual(walked(plan, seat), kept)

    def test_no_table_ahead_of_bad_side(self):
        for plan, _ in each_plan():
            for side in SIDES + NO_SIDES:
                for table in beside(plan.tables):
                    with self.subTest(kind=plan.kind, table=table, side=side), self.assertRaises(NoTable):
                        walked(plan, (table, side))
            for side in NO_SIDES:
                for table in range(plan.tables):
                    with self.subTest(kind=plan.kind, table=table, side=side), self.assertRaises(BadSide):
                        walked(plan, (table, side))


class AskingChangesNothing(unittest.TestCase):
    def test_plans_stay(self):
        for plan, rows in each_plan():
            kept = copy.deepcopy(vars(plan))
            where(plan, 1, 1)
            guide(plan, 1).clear()
            way_of(plan, 1)[0].append(5)
            goes(plan, 0, (1, "second"))
            walked(plan, (1, "first")).clear()
            for ask in (lambda: where(plan, -1, 0), lambda: goes(plan, 0, (0, "third")), lambda: guide(plan, -1)):
                with self.assertRaises(ValueError):
                    ask()
            self.assertEqual(vars(plan), kept)
            self.assertEqual(plan.rows(), rows)


if __name__ == "__main__":
    unittest.main()

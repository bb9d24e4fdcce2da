"""Points of packets, totals, tops and places, held against the model's, which has Python's own fractions."""

import random
import unittest

from byestand.errors import NoPacket, NoPair, NoSet
from byestand.evening import Evening
from byestand.plans import Plan
from byestand.sums import places, points_of, top, total

from model import Drawer, all_come, both, do, draw_step, drawn_evening, fraction
from moves import EACH, beside

SMALL = [("straight", 3), ("skip", 4), ("shared", 4), ("ring", 4), ("straight", 5)]


def sums_of(evening):
    return [(total(evening, pair), top(evening, pair)) for pair in range(evening.plan.pairs())]


def fields_of(plan):
    return sorted({plan.field(pair) for pair in range(plan.pairs())})


class Holding(unittest.TestCase):
    def hold(self, evening, model):
        state = model.state()
        for number, packet in state.each_packet():
            told = points_of(evening, number, packet)
            self.assertIs(type(told), list)
            self.assertEqual({type(row) for row in told} - {tuple}, set())
            got = [(at, table, fraction(first), fraction(second)) for at, table, first, second in told]
            self.assertEqual(got, state.points_of(number, packet))
        for pair, (own, most) in state.sums().items():
            self.assertEqual(fraction(total(evening, pair)), own)
            self.assertEqual(fraction(top(evening, pair)), most)
        for number in range(len(state.fields())):
            self.assertEqual(places(evening, number), state.places(number))


class DrawnEvenings(Holding):
    def test_of_all_kinds(self):
        for seed, (kind, tables) in enumerate(EACH):
            for packets in (1, 3):
                with self.subTest(kind=kind, tables=tables, packets=packets):
                    evening, model = drawn_evening(kind, tables, packets, 200 + seed, 120)
                    self.hold(evening, model)

    def test_behind_every_deed(self):
        for seed, (kind, tables) in enumerate(SMALL):
            drawer = Drawer(70 + seed)
            evening, model = both(kind, tables, seed % 3 + 1, all_come(2 * tables, (seed,)))
            for _ in range(120):
                draw_step(drawer, evening, model, 0.1)
                self.hold(evening, model)

    def test_full_evenings(self):
        """Every table of every round has a score for every packet."""
        for seed, (kind, tables) in enumerate(SMALL):
            drawer = Drawer(seed)
            plan = Plan(kind, tables)
            evening, model = both(kind, tables, 2, all_come(2 * tables) + [("call",)] * plan.rounds())
            for gap in evening.gaps():
                deed = ("enter",) + gap + (drawer.chance.choice(drawer.scores),)
                do(evening, deed)
                model.do(deed)
            self.hold(evening, model)
            self.assertEqual(evening.gaps(), [])


class Written(unittest.TestCase):
    def setUp(self):
        self.evening, _ = both("straight", 3, 1, all_come(6) + [("call",)] * 3)

    def test_points_of_a_packet(self):
        # Set 0 is at table 0 in round 0, at table 2 in round 1, at table 1 in round 2.
        evening = self.evening
        self.assertEqual(points_of(evening, 0, 0), [])
        evening.enter(2, 1, 0, 50)
        self.assertEqual(points_of(evening, 0, 0), [(2, 1, (2, 1), (2, 1))])
        evening.enter(0, 0, 0, 100)
        self.assertEqual(points_of(evening, 0, 0), [(0, 0, (7, 2), (1, 2)), (2, 1, (1, 2), (7, 2))])
        evening.rule(1, 2, 0, 6, 3)
        self.assertEqual(points_of(evening, 0, 0), [
            (0, 0, (7, 2), (1, 2)), (1, 2, (12, 5), (6, 5)), (2, 1, (1, 2), (7, 2)),
        ])
        self.assertEqual([total(evening, pair) for pair in range(6)], [(7, 2), (1, 2), (12, 5), (1, 2), (6, 5), (7, 2)])
        self.assertEqual([top(evening, pair) for pair in range(6)], [(4, 1)] * 6)
        self.assertEqual(places(evening, 0), [(1, 0), (2, 2), (3, 1)])
        self.assertEqual(places(evening, 1), [(1, 5), (2, 4), (3, 3)])

    def test_a_single_table_over_a_set(self):
        evening = Evening(Plan("straight", 3), 1)
        for deed in (("come", 0, "a"), ("come", 3, "b"), ("call",), ("enter", 0, 0, 0, 9999)):
            do(evening, deed)
        self.assertEqual(points_of(evening, 0, 0), [(0, 0, (0, 1), (0, 1))])
        self.assertEqual((total(evening, 0), top(evening, 0)), ((0, 1), (0, 1)))

    def test_at_first_all_are_alike(self):
        for kind, tables in EACH:
            evening = Evening(Plan(kind, tables), 2)
            for number in fields_of(evening.plan):
                pairs = [pair for pair in range(2 * tables) if evening.plan.field(pair) == number]
                self.assertEqual(places(evening, number), [(1, pair) for pair in pairs])
            self.assertEqual(sums_of(evening), [((0, 1), (0, 1))] * (2 * tables))

    def test_like_totals_share_a_place_and_the_next_one_is_left_out(self):
        evening = self.evening
        for at, table, score in ((0, 0, 5), (1, 2, 5), (2, 1, -3)):
            evening.enter(at, table, 0, score)
        self.assertEqual(places(evening, 0), [(1, 0), (1, 2), (3, 1)])
        self.assertEqual(places(evening, 1), [(1, 5), (2, 3), (2, 4)])

    def test_pairs_for_whom_nobody_ever_came(self):
        evening, model = both("ring", 4, 1, all_come(8, (2, 6)) + [("call",)])
        for at, table, packet in [gap for gap in evening.gaps() if gap[0] == 0]:
            evening.enter(at, table, packet, 40)
        told = places(evening, 0)
        self.assertEqual(sorted(pair for _, pair in told), list(range(8)))
        self.assertEqual(told, sorted(told))
        self.assertEqual(total(evening, 2), (0, 1))

    def test_the_tables_that_play_count_even_where_nothing_is_handed_in(self):
        """A pair that leaves takes its tables of rounds not called away, and all tops with them."""
        evening, _ = both("straight", 3, 1, all_come(6) + [("call",), ("enter", 0, 0, 0, 5)])
        self.assertEqual((total(evening, 0), top(evening, 0)), ((2, 1), (4, 1)))
        evening.leave(1)
        self.assertEqual((total(evening, 0), top(evening, 0)), ((1, 1), (2, 1)))
        evening.come(1, "other")
        self.assertEqual((total(evening, 0), top(evening, 0)), ((2, 1), (4, 1)))


class WhatCounts(unittest.TestCase):
    def final_slips(self, evening):
        """The deeds that would hand in the slips as they stand now."""
        found = []
        for _, at, table, packet, what in evening.slips():
            if what[0] == "score":
                found.append(("enter", at, table, packet, what[1]))
            elif what[0] == "ruling":
                found.append(("rule", at, table, packet) + what[1:])
        return found

    def made_anew(self, evening, slips):
        """The evening's comings, leavings and calls, with other slips as early or late as can be."""
        anew = Evening(Plan(evening.plan.kind, evening.plan.tables), evening.packets)
        for deed in evening.deeds():
            if deed[0] in ("come", "leave", "call"):
                do(anew, deed)
        for deed in slips:
            do(anew, deed)
        return anew

    def test_put_right_as_if_entered_so_and_struck_as_if_never(self):
        for seed, (kind, tables) in enumerate(SMALL):
            evening, _ = drawn_evening(kind, tables, 2, 300 + seed, 200)
            words = {deed[0] for deed in evening.deeds()}
            self.assertTrue({"amend", "strike"} <= words)
            anew = self.made_anew(evening, self.final_slips(evening))
            self.assertEqual(sums_of(anew), sums_of(evening))

    def test_in_another_order(self):
        chance = random.Random(8)
        for seed, (kind, tables) in enumerate(SMALL):
            evening, _ = drawn_evening(kind, tables, 2, 400 + seed, 200)
            slips = self.final_slips(evening)
            for _ in range(4):
                chance.shuffle(slips)
                anew = self.made_anew(evening, slips)
                self.assertEqual(sums_of(anew), sums_of(evening))
                for number in fields_of(evening.plan):
                    self.assertEqual(places(anew, number), places(evening, number))
                for number in range(evening.plan.sets()):
                    for packet in range(2):
                        self.assertEqual(points_of(anew, number, packet), points_of(evening, number, packet))

    def test_whoever_comes_for_a_pair_goes_on_with_its_total(self):
        evening, model = both("skip", 4, 2, all_come(8) + [("call",)])
        for gap in [gap for gap in evening.gaps() if gap[0] == 0]:
            evening.enter(*gap, gap[1])
        own, most = total(evening, 2), top(evening, 2)
        self.assertNotEqual(most, (0, 1))
        evening.leave(2)
        evening.come(2, "new")
        self.assertEqual((total(evening, 2), top(evening, 2)), (own, most))
        evening.call()
        table = 2
        evening.enter(1, table, 0, 9999)
        self.assertEqual(top(evening, 2), (most[0] + 4, 1))


class Refusals(unittest.TestCase):
    def test_no_set_ahead_of_no_packet(self):
        for kind, tables in EACH:
            for packets in (1, 3):
                evening, _ = both(kind, tables, packets, all_come(2 * tables) + [("call",)])
                sets = evening.plan.sets()
                for number in beside(sets):
                    for packet in (0, packets - 1) + beside(packets):
                        with self.subTest(kind=kind, number=number, packet=packet), self.assertRaises(NoSet):
                            points_of(evening, number, packet)
                for number in range(sets):
                    for packet in beside(packets):
                        with self.subTest(kind=kind, number=number, packet=packet), self.assertRaises(NoPacket):
                            points_of(evening, number, packet)

    def test_no_pair(self):
        for kind, tables in EACH:
            evening, _ = both(kind, tables, 1, all_come(2 * tables) + [("call",)])
            for pair in beside(2 * tables):
                for ask in (lambda: total(evening, pair), lambda: top(evening, pair)):
                    with self.subTest(kind=kind, pair=pair), self.assertRaises(NoPair):
                        ask()

    def test_no_pair_for_a_field_that_there_is_not(self):
        for kind, tables in EACH:
            evening, _ = both(kind, tables, 1, all_come(2 * tables))
            wrong = beside(2) + ((1,) if kind == "ring" else ())
            for number in wrong:
                with self.subTest(kind=kind, number=number), self.assertRaises(NoPair):
                    places(evening, number)


class ToldLists(unittest.TestCase):
    def test_changed_then_asked_again(self):
        for seed, (kind, tables) in enumerate(SMALL):
            evening, _ = drawn_evening(kind, tables, 2, 500 + seed, 120)
            asks = [lambda n=number, p=packet: points_of(evening, n, p)
                    for number in range(evening.plan.sets()) for packet in range(2)]
            asks += [lambda n=number: places(evening, n) for number in fields_of(evening.plan)]
            for ask in asks:
                told = ask()
                kept = list(told)
                told.append((9, 9, (9, 1), (9, 1)))
                told.reverse()
                self.assertEqual(ask(), kept)


if __name__ == "__main__":
    unittest.main()

"""Fillings, ends, leads and who is sure, held against what is found by trying scores in every open place."""

import copy
import itertools
import random
import unittest

from byestand.ends import ended, greatest, lead, least, sure
from byestand.errors import NoPair, Twice
from byestand.evening import Evening
from byestand.meets import beside as beside_by_sets
from byestand.plans import Plan
from byestand.sums import places, points_of, top, total

from model import Drawer, all_come, answers_of, both, do, draw_step, drawn_evening, fraction, worth
from moves import EACH, beside

SMALL = [("straight", 3), ("skip", 4), ("shared", 4), ("ring", 4)]


def tried_scores(standing, many_open):
    """Scores at, beside or beyond those that stand, with room for open ones between one another."""
    steps = (-2, -1, 0, 1, 2) if many_open > 2 else (-1, 0, 1)
    found = {score + step for score in standing for step in steps} | {-9999, -9998, 0, 9998, 9999}
    return sorted(score for score in found if -9999 <= score <= 9999)


class Tried:
    """All that may come of each packet of an evening, by trying."""

    def __init__(self, model):
        self.state = model.state()
        self.packets = [self.outcomes(number, packet) for number, packet in self.state.each_packet()]

    def outcomes(self, number, packet):
        """All unlike ways in which the pairs may come out of a packet, each a dict of their points."""
        state = self.state
        slips = state.on_packet(number, packet)
        gaps = [gap for gap in state.gaps() if gap[2] == packet and state.rows[gap[0]][gap[1]][2] == number]
        standing = [what[1] for _, _, what in slips if what[0] == "score"]
        found = {}
        for scores in itertools.product(tried_scores(standing, len(gaps)), repeat=len(gaps)):
            whole = standing + list(scores)
            # Ways in which each meets each alike have the same points, so one of them is enough.
            order = tuple(sum((other < score) - (other > score) for other in whole) for score in whole)
            if order not in found:
                filled = slips + [(gap[0], gap[1], ("score", score)) for gap, score in zip(gaps, scores)]
                found[order] = self.pairs_points(filled, whole, state.many(number))
        return list(found.values())

    def pairs_points(self, filled, scores, many):
        found = {}
        for at, table, what in filled:
            for pair, own in zip(self.state.rows[at][table][:2], worth(what, scores, many)):
                found[pair] = own
        return found

    def greatest(self, pair):
        return sum(max(ways.get(pair, 0) for ways in packet) for packet in self.packets)

    def least(self, pair):
        return sum(min(ways.get(pair, 0) for ways in packet) for packet in self.packets)

    def lead(self, one, other):
        return sum(max(ways.get(one, 0) - ways.get(other, 0) for ways in packet) for packet in self.packets)

    def sure(self, pair):
        field = [pairs for pairs in self.state.fields() if pair in pairs][0]
        return all(self.lead(other, pair) < 0 for other in field if other != pair)


def drawn_filling(chance, gaps):
    pick = chance.choice([lambda: chance.randrange(-9999, 10000), lambda: chance.choice([-9999, -1, 0, 0, 1, 9999])])
    return [gap + (pick(),) for gap in gaps]


class Holding(unittest.TestCase):
    def hold_filling(self, evening, model, filling):
        self.assertIs(type(filling), list)
        self.assertEqual({type(row) for row in filling} - {tuple}, set())
        self.assertEqual([row[:3] for row in filling], model.state().gaps())
        self.assertTrue(all(type(row[3]) is int and -9999 <= row[3] <= 9999 for row in filling))

    def hold_lead(self, evening, model, one, other):
        """What is told of a lead hangs together; the lead."""
        told = lead(evening, one, other)
        self.assertIs(type(told), tuple)
        most, filling = told
        self.hold_filling(evening, model, filling)
        ends = model.state().totals(filling)
        self.assertEqual(fraction(most), ends[one] - ends[other])
        self.assertEqual(fraction(most), fraction(ended(evening, filling, one)) - fraction(ended(evening, filling, other)))
        return fraction(most)

    def hold_all(self, evening, model):
        """All is as trying tells."""
        tried = Tried(model)
        pairs = range(evening.plan.pairs())
        for pair in pairs:
            self.assertEqual(fraction(greatest(evening, pair)), tried.greatest(pair), pair)
            self.assertEqual(fraction(least(evening, pair)), tried.least(pair), pair)
            self.assertIs(sure(evening, pair), tried.sure(pair), pair)
        for one, other in itertools.permutations(pairs, 2):
            self.assertEqual(self.hold_lead(evening, model, one, other), tried.lead(one, other), (one, other))


class ByTrying(Holding):
    def test_nothing_handed_in(self):
        for kind, tables in SMALL:
            with self.subTest(kind):
                self.hold_all(*both(kind, tables, 1, all_come(2 * tables)))
                self.hold_all(*both(kind, tables, 1, all_come(2 * tables, (1,)) + [("call",)]))

    def test_nobody_there(self):
        for kind, tables in SMALL:
            self.hold_all(*both(kind, tables, 2))

    def test_behind_every_deed_of_small_evenings(self):
        for seed in range(5):
            drawer = Drawer(seed)
            evening, model = both("straight", 3, seed % 2 + 1, all_come(6, (seed,)) + [("call",)] * 2)
            for _ in range(40):
                deed = drawer.deed(model.state(), weights=(3, 1, 2, 20, 4, 3, 2, 2))
                if model.do(deed)[0] == "told":
                    do(evening, deed)
                    self.hold_all(evening, model)

    def some_filled(self, kind, tables, seed, scores, left, rulings=0.1):
        """An evening in which each packet has about so many places left open."""
        chance = random.Random(seed)
        plan = Plan(kind, tables)
        evening, model = both(kind, tables, 1, all_come(2 * tables) + [("call",)] * plan.rounds())
        by_set = {}
        for gap in evening.gaps():
            by_set.setdefault(plan.seat(gap[0], gap[1])[2], []).append(gap)
        for gaps in by_set.values():
            chance.shuffle(gaps)
            for gap in gaps[chance.choice(left):]:
                deed = ("enter",) + gap + (chance.choice(scores),)
                if chance.random() < rulings:
                    deed = ("rule",) + gap + (chance.randrange(11), chance.randrange(11))
                do(evening, deed)
                model.do(deed)
        return evening, model

    def test_scores_at_the_edges(self):
        """Where those that stand lie at an edge, or close together, there is no room on one side, or between."""
        for seed, (kind, tables) in enumerate(SMALL * 3):
            scores = [[-9999, 9999], [-9999, -9998, 9998, 9999], [0, 1, 2], [-9999], [9999], [5]][seed % 6]
            with self.subTest(kind=kind, scores=scores):
                self.hold_all(*self.some_filled(kind, tables, seed, scores, (0, 1, 2)))

    def test_no_room_at_all_between_or_outside(self):
        """The one wanted to be below has 9999, the one wanted to be above -9999: an open one gains or loses by a half."""
        evening, model = both("straight", 3, 1, all_come(6) + [("call",)] * 3)
        for deed in (("enter", 0, 0, 0, -9999), ("enter", 1, 2, 0, 9999)):
            do(evening, deed)
            model.do(deed)
        self.hold_all(evening, model)
        # Of set 0 one place is open; the two leads over it differ by what a half win is worth.
        rest = 4 * 2
        self.assertEqual(lead(evening, 0, 2)[0], (rest - 3, 1))
        self.assertEqual(lead(evening, 2, 0)[0], (rest + 4, 1))

    def test_many_rulings(self):
        for seed, (kind, tables) in enumerate(SMALL):
            self.hold_all(*self.some_filled(kind, tables, 40 + seed, [0, 50, 9999], (0, 1, 2), rulings=0.6))
            self.hold_all(*self.some_filled(kind, tables, 50 + seed, [0], (0,), rulings=1))

    def test_all_open_places_of_all_packets_at_once(self):
        """Tries whole fillings, so that nothing rests on packets being filled one by one."""
        for kind, tables, seed in (("straight", 3, 1), ("straight", 3, 2), ("skip", 4, 3), ("ring", 4, 5)):
            evening, model = self.some_filled(kind, tables, seed, [-9999, 0, 1], (0, 0, 1))
            chance = random.Random(seed)
            while len(evening.gaps()) > 3:
                deed = ("enter",) + chance.choice(evening.gaps()) + (chance.choice([-9999, 0, 1, 9999]),)
                do(evening, deed)
                model.do(deed)
            gaps = evening.gaps()
            ends = []
            for scores in itertools.product((-9999, -9998, -1, 0, 1, 2, 9999), repeat=len(gaps)):
                ends.append(model.state().totals([gap + (score,) for gap, score in zip(gaps, scores)]))
            for pair in range(2 * tables):
                self.assertEqual(fraction(greatest(evening, pair)), max(end[pair] for end in ends))
                self.assertEqual(fraction(least(evening, pair)), min(end[pair] for end in ends))
            for one, other in itertools.permutations(range(2 * tables), 2):
                self.assertEqual(fraction(lead(evening, one, other)[0]), max(end[one] - end[other] for end in ends))

    def test_sure_is_told_sometimes_and_early(self):
        """Fields in which one pair is far ahead while places are still open."""
        told = []
        for at_last in range(1, 4):
            evening, model = both("straight", 3, 1, all_come(6) + [("call",)] * 3)
            for gap in evening.gaps():
                if evening.plan.seat(gap[0], gap[1])[0] == 0:
                    score = 9999
                else:
                    score = -gap[1]
                if gap[0] < at_last:
                    deed = ("enter",) + gap + (score,)
                    do(evening, deed)
                    model.do(deed)
                    self.hold_all(evening, model)
                    told.append((len(evening.gaps()), sure(evening, 0)))
        self.assertIn(True, [is_sure for many, is_sure in told if many > 0])
        self.assertIn(False, [is_sure for many, is_sure in told])


class Ended(Holding):
    def test_drawn_fillings(self):
        for seed, (kind, tables) in enumerate(EACH):
            chance = random.Random(seed)
            evening, model = drawn_evening(kind, tables, seed % 3 + 1, 600 + seed, 80)
            gaps = evening.gaps()
            self.assertTrue(any(gap[0] >= evening.called() for gap in gaps) or evening.called() == evening.plan.rounds())
            for _ in range(3):
                filling = drawn_filling(chance, gaps)
                kept = copy.copy(filling)
                ends = model.state().totals(filling)
                for pair in range(2 * tables):
                    self.assertEqual(fraction(ended(evening, filling, pair)), ends[pair])
                    self.assertGreaterEqual(fraction(greatest(evening, pair)), ends[pair])
                    self.assertLessEqual(fraction(least(evening, pair)), ends[pair])
                self.assertEqual(filling, kept)
                filling.clear()
                self.assertEqual(fraction(ended(evening, kept, 0)), ends[0])
            self.assertEqual(answers_of(evening), model.answers())

    def test_the_end_is_the_total_once_the_scores_are_handed_in(self):
        for seed, (kind, tables) in enumerate(SMALL):
            chance = random.Random(seed)
            evening, _ = drawn_evening(kind, tables, 2, 700 + seed, 60)
            filling = drawn_filling(chance, evening.gaps())
            ends = [ended(evening, filling, pair) for pair in range(2 * tables)]
            twin = evening.twin()
            while twin.called() < twin.plan.rounds():
                twin.call()
            for row in filling:
                twin.enter(*row)
            self.assertEqual([total(twin, pair) for pair in range(2 * tables)], ends)

    def test_no_filling_leads_by_more(self):
        for seed, (kind, tables) in enumerate(EACH):
            chance = random.Random(seed)
            evening, model = drawn_evening(kind, tables, 1, 800 + seed, 60)
            couples = [tuple(chance.sample(range(2 * tables), 2)) for _ in range(6)]
            most = {couple: self.hold_lead(evening, model, *couple) for couple in couples}
            for _ in range(5):
                ends = model.state().totals(drawn_filling(chance, evening.gaps()))
                for one, other in couples:
                    self.assertLessEqual(ends[one] - ends[other], most[one, other])

    def test_with_nothing_open_all_are_the_total(self):
        alone = shared = 0
        for seed, (kind, tables) in enumerate(SMALL * 4):
            drawer = Drawer(seed)
            evening, model = both(kind, tables, 1, all_come(2 * tables) + [("call",)] * Plan(kind, tables).rounds())
            scores = drawer.scores if seed < 12 else [0]
            for gap in evening.gaps():
                evening.enter(*gap, drawer.chance.choice(scores))
            for pair in range(2 * tables):
                own = total(evening, pair)
                self.assertEqual((greatest(evening, pair), least(evening, pair), ended(evening, [], pair)), (own,) * 3)
                told = places(evening, evening.plan.field(pair))
                first = [other for place, other in told if place == 1]
                self.assertIs(sure(evening, pair), first == [pair])
                alone += sure(evening, pair)
                shared += pair in first and len(first) > 1
            for one, other in itertools.permutations(range(2 * tables), 2):
                gap = fraction(total(evening, one)) - fraction(total(evening, other))
                self.assertEqual(lead(evening, one, other), ((gap.numerator, gap.denominator), []))
        self.assertGreater(alone, 0)
        self.assertGreater(shared, 0)


class Large(Holding):
    def hold_large(self, kind, tables):
        evening, model = both(kind, tables, 3, all_come(2 * tables))
        pairs = range(2 * tables)
        self.assertEqual([sure(evening, pair) for pair in pairs], [False] * len(pairs))
        return evening, model

    def test_nine_tables(self):
        evening, model = self.hold_large("straight", 9)
        for pair in range(18):
            self.assertEqual((greatest(evening, pair), least(evening, pair)), ((27 * 16, 1), (0, 1)))
        for one, other in ((0, 1), (8, 3), (9, 17), (12, 10)):
            self.assertEqual(self.hold_lead(evening, model, one, other), 27 * 16)
        # Over three packets pair 0 meets pair 9; over the others both sides win together, but for one another.
        self.assertEqual(self.hold_lead(evening, model, 0, 9), 3 * 16 + 24 * 14)

    def test_six_tables_in_a_ring(self):
        evening, model = self.hold_large("ring", 6)
        for one, other in ((0, 1), (11, 4), (3, 11), (7, 2)):
            like, unlike = beside_by_sets(evening.plan, [], one, other)
            self.assertEqual(like + unlike, 10)
            self.assertEqual(self.hold_lead(evening, model, one, other), 3 * (10 + 10 * like + 8 * unlike))
        for pair in range(12):
            self.assertEqual((greatest(evening, pair), least(evening, pair)), ((33 * 10, 1), (0, 1)))

    def test_large_ones_part_way(self):
        for kind, tables in (("straight", 9), ("ring", 6)):
            evening, model = drawn_evening(kind, tables, 3, 77, 120)
            for pair in range(2 * tables):
                self.assertIn(sure(evening, pair), (True, False))
            for one, other in ((0, 1), (2, tables), (tables, 0), (tables + 1, tables + 2)):
                self.hold_lead(evening, model, one, other)


class Refusals(unittest.TestCase):
    def test_no_pair_then_twice(self):
        for kind, tables in EACH:
            evening, _ = both(kind, tables, 1, all_come(2 * tables) + [("call",)])
            filling = [gap + (0,) for gap in evening.gaps()]
            for pair in beside(2 * tables):
                asks = [lambda: greatest(evening, pair), lambda: least(evening, pair), lambda: sure(evening, pair),
                        lambda: ended(evening, filling, pair), lambda: lead(evening, pair, 0),
                        lambda: lead(evening, 0, pair), lambda: lead(evening, pair, pair)]
                for ask in asks:
                    with self.subTest(kind=kind, pair=pair), self.assertRaises(NoPair):
                        ask()
            for pair in range(2 * tables):
                with self.subTest(kind=kind, pair=pair), self.assertRaises(Twice):
                    lead(evening, pair, pair)


def all_told(evening):
    """All that sums and ends tell of an evening."""
    plan = evening.plan
    pairs = range(plan.pairs())
    fields = sorted({plan.field(pair) for pair in pairs})
    filling = [gap + (7 * gap[1] - 5 * gap[0],) for gap in evening.gaps()]
    return {
        "points": [points_of(evening, number, packet)
                   for number in range(plan.sets()) for packet in range(evening.packets)],
        "sums": [(total(evening, pair), top(evening, pair)) for pair in pairs],
        "places": [places(evening, number) for number in fields],
        "bounds": [(greatest(evening, pair), least(evening, pair), ended(evening, filling, pair)) for pair in pairs],
        "leads": [lead(evening, one, other) for one, other in itertools.permutations(pairs, 2)],
        "sure": [sure(evening, pair) for pair in pairs],
    }


def spoiled(told):
    """Changes every list in what was told."""
    for rows in told["points"] + told["places"] + [filling for _, filling in told["leads"]]:
        rows.append((0, 0, 0, 0))
        rows.reverse()
        rows[:] = rows[:1]


class Asking(unittest.TestCase):
    def test_asking_changes_nothing(self):
        for seed, (kind, tables) in enumerate(SMALL):
            drawer = Drawer(seed + 20)
            evening, model = both(kind, tables, 2, all_come(2 * tables, (seed,)) + [("call",)])
            for step in range(45):
                draw_step(drawer, evening, model, 0.2)
                told = all_told(evening)
                kept = copy.deepcopy(told)
                spoiled(told)
                self.assertEqual(answers_of(evening), model.answers())
                if step % 3 == 0:
                    self.assertEqual(all_told(evening), kept)
                elif step % 3 == 1:
                    self.assertEqual(all_told(evening.twin()), kept)
                else:
                    anew = Evening(Plan(kind, tables), 2)
                    for deed in evening.deeds():
                        do(anew, deed)
                    self.assertEqual(all_told(anew), kept)


if __name__ == "__main__":
    unittest.main()

"""An evening: each deed with its refusals, and long evenings held against a model that goes through all deeds anew."""

import copy
import itertools
import unittest

from byestand import errors
from byestand.errors import BadPlan, NoPair, NoRound, NoTable, NotCalled, NothingLeft, StandError
from byestand.evening import Evening
from byestand.plans import Plan

from model import ALL_WORDS, Drawer, Model, all_come, answers_of, both, do, outcome
from moves import EACH, FAR, SIXTY, beside, rows_of

GOOD_NAMES = ("a", "z", "m", "ann", "a1", "z9", "a0000000", "abcdefgh", "x2y3z4w5", "zzzzzzzz")
BAD_NAMES = (
    "", " ", "abcdefghi", "a12345678", "1", "9a", "0ann", "Ann", "aNn", "anN", "A", "an n", " ann", "ann ", "ann\n",
    "\nann", "\n", "a\nb", "a-b", "a_b", "ann.", "~", "a" * 100, "abcdefgh\n",
)
SCORES = (-SIXTY, -10 ** 30, -10001, -10000, -9999, -9998, -1, 0, 1, 9998, 9999, 10000, 10001, 10 ** 30, SIXTY)
TENTHS = (-SIXTY, -10, -1, 0, 1, 5, 9, 10, 11, 12, 100, SIXTY)


class Holding(unittest.TestCase):
    """Does deeds on an evening and on its model, and holds both against one another."""

    def hold(self, evening, model):
        self.assertEqual(answers_of(evening), model.answers())

    def step(self, evening, model, deed):
        expected = model.do(deed)
        self.assertEqual(outcome(lambda: do(evening, deed)), expected, deed)
        return expected

    def try_all(self, evening, model, deeds):
        """Does each deed, takes it back if it was good; the pairs of refusals that were due at once."""
        kept = answers_of(evening)
        alone, couples = set(), set()
        for deed in deeds:
            due = model.refusals(deed)
            alone |= set(due) if len(due) == 1 else set()
            couples |= set(itertools.combinations(due, 2))
            if due:
                self.assertEqual(outcome(lambda: do(evening, deed)), ("refused", due[0]), deed)
            else:
                twin = evening.twin()
                self.assertEqual(outcome(lambda: do(twin, deed)), model.twin().do(deed), deed)
        self.assertEqual(answers_of(evening), kept)
        return alone, couples


class Making(unittest.TestCase):
    def test_packets(self):
        for kind, tables in EACH:
            for packets in (1, 2, 3):
                plan = Plan(kind, tables)
                evening = Evening(plan, packets)
                self.assertIs(evening.plan, plan)
                self.assertEqual(evening.packets, packets)
                self.assertEqual({"plan", "packets"} - set(vars(evening)), set())

    def test_bad_plan(self):
        for packets in (0, 4, 5, -1, -2, -3) + FAR:
            with self.subTest(packets), self.assertRaises(BadPlan) as caught:
                Evening(Plan("straight", 3), packets)
            self.assertEqual(caught.exception.word, "bad plan")

    def test_nobody_is_there_at_first(self):
        for kind, tables in EACH:
            evening = Evening(Plan(kind, tables), 2)
            self.assertEqual(answers_of(evening), Model(kind, tables, 2).answers())
            self.assertEqual((evening.there(), evening.called(), evening.slips(), evening.gaps()), ([], 0, [], []))
            self.assertEqual((evening.deeds(), evening.undone()), ([], []))
            for pair in range(2 * tables):
                self.assertEqual((evening.byes(pair), evening.sitters(pair)), ([], []))


class Coming(Holding):
    def test_good_names(self):
        for name in GOOD_NAMES:
            evening, model = both("straight", 3, 1)
            self.assertIsNone(evening.come(4, name))
            self.assertEqual(evening.there(), [(4, name)])
            self.assertEqual(evening.deeds(), [("come", 4, name)])

    def test_bad_names(self):
        for name in BAD_NAMES:
            evening, model = both("straight", 3, 1)
            self.assertEqual(outcome(lambda: evening.come(4, name)), ("refused", "BadName"), name)
            self.assertEqual(evening.there(), [])

    def test_each_and_every_two_refusals(self):
        evening, model = both("ring", 4, 1, all_come(8, (2, 5)) + [("leave", 3)])
        pairs = tuple(range(8)) + beside(8)
        names = GOOD_NAMES + BAD_NAMES + ("p0", "p1", "p2", "p3", "p7")
        alone, couples = self.try_all(evening, model, [("come",) + two for two in itertools.product(pairs, names)])
        self.assertEqual(alone, {"NoPair", "BadName", "Seated", "Taken"})
        self.assertEqual(couples, {("NoPair", "BadName"), ("NoPair", "Taken"), ("BadName", "Seated"), ("Seated", "Taken")})

    def test_a_pairs_own_name_is_seated_and_not_taken(self):
        evening, model = both("straight", 3, 1, [("come", 1, "ann")])
        self.assertEqual(outcome(lambda: evening.come(1, "ann")), ("refused", "Seated"))
        self.assertEqual(outcome(lambda: evening.come(2, "ann")), ("refused", "Taken"))

    def test_a_name_that_left_comes_for_another_pair(self):
        evening, model = both("straight", 3, 1)
        for deed in (("come", 1, "ann"), ("come", 2, "ann"), ("leave", 1), ("come", 2, "ann"), ("come", 1, "ann"),
                     ("come", 1, "bob"), ("leave", 2), ("come", 2, "bob"), ("come", 2, "ann")):
            self.step(evening, model, deed)
            self.hold(evening, model)
        self.assertEqual(evening.there(), [(1, "bob"), (2, "ann")])

    def test_leaving(self):
        evening, model = both("skip", 4, 1, all_come(8, (2, 5)))
        alone, couples = self.try_all(evening, model, [("leave", pair) for pair in tuple(range(8)) + beside(8)])
        self.assertEqual(alone, {"Away"})
        self.assertEqual(couples, {("NoPair", "Away")})
        self.assertIsNone(evening.leave(3))
        self.assertEqual(outcome(lambda: evening.leave(3)), ("refused", "Away"))
        self.assertEqual(evening.deeds()[-1], ("leave", 3))


class Calling(Holding):
    def test_round_by_round_and_no_round_behind_the_last_one(self):
        for kind, tables in EACH:
            evening, model = both(kind, tables, 1, all_come(2 * tables))
            for at in range(len(rows_of(kind, tables))):
                self.assertEqual(evening.called(), at)
                self.assertEqual(evening.call(), at)
            kept = answers_of(evening)
            for _ in range(2):
                self.assertEqual(outcome(evening.call), ("refused", "NoRound"))
            self.assertEqual(answers_of(evening), kept)
            self.assertEqual(evening.called(), len(rows_of(kind, tables)))

    def test_a_called_round_stays_as_it_was(self):
        evening, model = both("straight", 3, 1, all_come(6, (4,)))
        for deed in (("call",), ("come", 4, "late"), ("leave", 0), ("call",), ("come", 0, "new"), ("leave", 5), ("call",),
                     ("leave", 1), ("come", 5, "p0"), ("leave", 2), ("leave", 3)):
            self.step(evening, model, deed)
            self.hold(evening, model)
        self.assertEqual(evening.sat(0), [(0, "p0"), (1, "p1"), (2, "p2"), (3, "p3"), (5, "p5")])
        self.assertEqual(evening.sat(1), [(1, "p1"), (2, "p2"), (3, "p3"), (4, "late"), (5, "p5")])
        self.assertEqual(evening.sat(2), [(0, "new"), (1, "p1"), (2, "p2"), (3, "p3"), (4, "late")])
        self.assertEqual(evening.sitters(0), [(0, "p0"), (2, "new")])
        self.assertEqual(evening.sitters(4), [(1, "late"), (2, "late")])
        self.assertEqual(evening.byes(1), [0, 2])
        self.assertEqual(evening.byes(0), [])
        self.assertEqual(evening.byes(5), [1])
        self.assertEqual([evening.plays(0, table) for table in range(3)], [True, False, True])

    def test_rounds_not_yet_called_go_by_who_is_there_now(self):
        for kind, tables in EACH:
            evening, model = both(kind, tables, 2)
            self.assertIs(evening.plays(0, 0), False)
            for pair in range(2 * tables):
                evening.come(pair, f"n{pair}")
                model.do(("come", pair, f"n{pair}"))
                self.hold(evening, model)
            self.assertTrue(all(answers_of(evening)["plays"]))
            evening.leave(0)
            model.do(("leave", 0))
            self.hold(evening, model)

    def test_not_called(self):
        evening, model = both("ring", 4, 1, all_come(8) + [("call",), ("call",)])
        for at in beside(2) + (2, 6, 7, 8):
            with self.subTest(at), self.assertRaises(NotCalled):
                evening.sat(at)
        self.assertEqual(evening.sat(1), [(pair, f"p{pair}") for pair in range(8)])

    def test_no_round_ahead_of_no_table(self):
        for kind, tables in EACH:
            evening, model = both(kind, tables, 1, all_come(2 * tables) + [("call",)])
            rounds = len(rows_of(kind, tables))
            for at, table in itertools.product(beside(rounds), tuple(range(tables)) + beside(tables)):
                with self.subTest(kind=kind, at=at, table=table), self.assertRaises(NoRound):
                    evening.plays(at, table)
            for at, table in itertools.product(range(rounds), beside(tables)):
                with self.subTest(kind=kind, at=at, table=table), self.assertRaises(NoTable):
                    evening.plays(at, table)

    def test_no_pair(self):
        for kind, tables in EACH:
            evening, model = both(kind, tables, 1, all_come(2 * tables) + [("call",)])
            for pair in beside(2 * tables):
                for ask in (lambda: evening.byes(pair), lambda: evening.sitters(pair)):
                    with self.subTest(kind=kind, pair=pair), self.assertRaises(NoPair):
                        ask()


class Slips(Holding):
    def setUp(self):
        # Pair 1 is away in round 0, so its table is out there; one place has a slip, another a struck one.
        deeds = all_come(6, (1,)) + [("call",), ("come", 1, "late"), ("call",)]
        deeds += [("enter", 0, 0, 0, 100), ("enter", 0, 2, 1, -50), ("rule", 1, 1, 0, 6, 4), ("strike", 1)]
        # Pair 5 leaves, so that in the last round, which is not called, a table is out, too.
        self.deeds = deeds + [("leave", 5)]
        self.evening, self.model = both("straight", 3, 2, self.deeds)

    def places(self):
        return itertools.product((-SIXTY, -1, 0, 1, 2, 3, 7, SIXTY), (-SIXTY, -1, 0, 1, 2, 3, SIXTY), (-1, 0, 1, 2, SIXTY))

    def couples_of_places(self):
        names = ("NotCalled", "NoTable", "NoPacket", "Out", "Scored", "BadScore")
        never = {("NotCalled", "Scored"), ("NoTable", "Out"), ("NoTable", "Scored"), ("NoPacket", "Scored"),
                 ("Out", "Scored")}
        return set(names), set(itertools.combinations(names, 2)) - never

    def test_enter(self):
        deeds = [("enter",) + place + (score,) for place in self.places() for score in SCORES]
        self.assertEqual(self.try_all(self.evening, self.model, deeds), self.couples_of_places())

    def test_rule(self):
        deeds = [("rule",) + place + (first, second)
                 for place in self.places() for first in TENTHS for second in (-1, 0, 10, 11, SIXTY)]
        self.assertEqual(self.try_all(self.evening, self.model, deeds), self.couples_of_places())

    def test_amend_and_strike(self):
        numbers = (-SIXTY, -3, -2, -1, 0, 1, 2, 3, 4, 10 ** 30, SIXTY)
        deeds = [("amend",) + two for two in itertools.product(numbers, SCORES)]
        both_kinds = {("NoSlip", "BadScore"), ("Struck", "BadScore")}
        self.assertEqual(self.try_all(self.evening, self.model, deeds), ({"NoSlip", "Struck", "BadScore"}, both_kinds))
        deeds = [("ruling",) + three for three in itertools.product(numbers, TENTHS, TENTHS)]
        self.assertEqual(self.try_all(self.evening, self.model, deeds), ({"NoSlip", "Struck", "BadScore"}, both_kinds))
        deeds = [("strike", number) for number in numbers]
        self.assertEqual(self.try_all(self.evening, self.model, deeds), ({"NoSlip", "Struck"}, set()))

    def test_what_deeds_tell(self):
        evening = self.evening
        self.assertEqual(evening.enter(0, 2, 1, -9999), 3)
        self.assertEqual(evening.rule(1, 0, 1, 0, 10), 4)
        self.assertIsNone(evening.amend(4, 9999))
        self.assertIsNone(evening.amend_ruling(0, 10, 0))
        self.assertIsNone(evening.strike(3))
        self.assertEqual(evening.deeds()[-5:], [
            ("enter", 0, 2, 1, -9999), ("rule", 1, 0, 1, 0, 10), ("amend", 4, 9999), ("ruling", 0, 10, 0), ("strike", 3),
        ])
        self.assertEqual(evening.slips(), [
            (0, 0, 0, 0, ("ruling", 10, 0)), (1, 0, 2, 1, ("struck",)), (2, 1, 1, 0, ("ruling", 6, 4)),
            (3, 0, 2, 1, ("struck",)), (4, 1, 0, 1, ("score", 9999)),
        ])

    def test_a_slip_put_right_keeps_its_number(self):
        for deed in (("amend", 0, 101), ("ruling", 0, 3, 3), ("ruling", 2, 0, 0), ("amend", 2, 0), ("amend", 0, -9999)):
            self.step(self.evening, self.model, deed)
            self.hold(self.evening, self.model)
        self.assertEqual([slip[0] for slip in self.evening.slips()], [0, 1, 2])

    def test_a_struck_ones_number_does_not_come_again(self):
        place = (0, 2, 1)
        for deed in (("enter",) + place + (5,), ("strike", 3), ("rule",) + place + (5, 5), ("enter",) + place + (5,),
                     ("strike", 4), ("enter",) + place + (7,), ("amend", 4, 3), ("strike", 0), ("strike", 0)):
            self.step(self.evening, self.model, deed)
            self.hold(self.evening, self.model)
        self.assertEqual([slip[0] for slip in self.evening.slips() if slip[1:4] == place], [1, 3, 4, 5])

    def test_a_slip_of_a_pair_that_left_stays(self):
        for deed in (("leave", 0), ("amend", 0, 7), ("enter", 1, 0, 0, 3), ("come", 0, "other"), ("enter", 1, 0, 1, 3)):
            self.assertEqual(self.step(self.evening, self.model, deed)[0], "told")
            self.hold(self.evening, self.model)

    def test_a_refused_deed_is_done_when_it_has_become_good(self):
        evening, model = both("straight", 3, 2, all_come(6, (1,)))
        for refused, helper in (
            (("enter", 0, 0, 0, 5), ("call",)), (("come", 0, "bob"), ("leave", 0)), (("leave", 1), ("come", 1, "ann")),
            (("strike", 1), ("enter", 0, 2, 0, 1)), (("rule", 0, 2, 0, 1, 2), None), (("amend", 2, 9), None),
            (("rule", 0, 0, 0, 1, 1), ("strike", 0)), (("enter", 1, 2, 1, 3), ("call",)),
        ):
            if helper is not None:
                before = answers_of(evening)
                self.assertEqual(self.step(evening, model, refused)[0], "refused", refused)
                self.assertEqual(answers_of(evening), before)
                self.step(evening, model, helper)
            self.assertEqual(self.step(evening, model, refused)[0], "told", refused)
            self.hold(evening, model)


class LongEvenings(Holding):
    def drive(self, kind, tables, packets, seed, steps, back=0.1):
        """A long evening of drawn deeds, some taken back and done again; holds all behind every one."""
        drawer = Drawer(seed)
        evening, model = both(kind, tables, packets, all_come(2 * tables, (seed % 5, 7 * seed % tables)))
        refused = 0
        for _ in range(steps):
            if drawer.chance.random() < back:
                word = drawer.chance.choice(["undo", "undo", "redo"])
                for _ in range(drawer.chance.randrange(1, 6)):
                    self.assertEqual(outcome(getattr(evening, word)), getattr(model, word)())
            else:
                refused += self.step(evening, model, drawer.deed(model.state()))[0] == "refused"
            self.hold(evening, model)
        self.assertGreater(refused, 0)
        return evening, model

    def test_of_all_kinds(self):
        for seed, (kind, tables) in enumerate(EACH):
            with self.subTest(kind=kind, tables=tables):
                self.drive(kind, tables, seed % 3 + 1, seed, 90)

    def test_smaller_ones_to_their_ends(self):
        words = set()
        for seed, (kind, tables) in enumerate([("straight", 3), ("skip", 4), ("shared", 4), ("ring", 4), ("straight", 5)]):
            evening, model = self.drive(kind, tables, seed % 3 + 1, 50 + seed, 260, back=0.03)
            words |= {deed[0] for deed in evening.deeds()}
            self.assertGreater(evening.called(), 1)
        self.assertEqual(words, set(ALL_WORDS))

    def test_taken_back_to_nothing_and_done_again(self):
        for seed, (kind, tables) in enumerate([("straight", 3), ("skip", 6), ("shared", 4), ("ring", 5)]):
            evening, model = self.drive(kind, tables, 2, 90 + seed, 140, back=0)
            kept, stood = [], len(model.done)
            while model.done:
                kept.append(answers_of(evening))
                told = evening.undo()
                self.assertIs(type(told), tuple)
                self.assertEqual(("told", told), model.undo())
                self.hold(evening, model)
            for _ in range(2):
                self.assertEqual(outcome(evening.undo), ("refused", "NothingLeft"))
                self.hold(evening, model)
            self.assertEqual((evening.there(), evening.called(), evening.slips(), evening.gaps()), ([], 0, [], []))
            for _ in range(stood):
                told = evening.redo()
                self.assertIs(type(told), tuple)
                self.assertEqual(("told", told), model.redo())
                behind, before = answers_of(evening), kept.pop()
                self.assertEqual({**behind, "undone": []}, {**before, "undone": []})
            for _ in range(2):
                self.assertEqual(outcome(evening.redo), ("refused", "NothingLeft"))
                self.hold(evening, model)

    def test_told_lists_changed(self):
        evening, model = self.drive("ring", 4, 2, 5, 80)
        evening.undo()
        model.undo()
        for told in (evening.deeds(), evening.undone(), evening.there(), evening.sat(0), evening.slips(), evening.gaps(),
                     evening.byes(0), evening.sitters(0)):
            self.assertIs(type(told), list)
            told.append(("call",))
            told.reverse()
            told[:] = told[:1]
            self.hold(evening, model)
        for pair in range(8):
            evening.byes(pair).append(0)
            evening.sitters(pair).clear()
        self.hold(evening, model)
        self.assertEqual(evening.redo(), model.redo()[1])
        self.hold(evening, model)


class TakingBack(Holding):
    def test_nothing_left_at_first(self):
        evening = Evening(Plan("straight", 3), 1)
        for ask in (evening.undo, evening.redo):
            with self.assertRaises(NothingLeft) as caught:
                ask()
            self.assertEqual(caught.exception.word, "nothing left")

    def test_another_deed_lets_go_what_could_be_done_again(self):
        evening, model = both("straight", 3, 1, all_come(6) + [("call",), ("enter", 0, 0, 0, 5)])
        for _ in range(3):
            evening.undo()
            model.undo()
        self.hold(evening, model)
        self.assertEqual(evening.undone(), [("come", 5, "p5"), ("call",), ("enter", 0, 0, 0, 5)])
        evening.come(5, "eve")
        self.assertEqual(evening.undone(), [])
        self.assertEqual(outcome(evening.redo), ("refused", "NothingLeft"))

    def test_the_very_deed_lets_go_too(self):
        evening, model = both("straight", 3, 1, [("come", 0, "a"), ("come", 1, "b")])
        evening.undo()
        evening.undo()
        evening.come(0, "a")
        self.assertEqual((evening.deeds(), evening.undone()), ([("come", 0, "a")], []))

    def test_a_refused_deed_and_an_asking_do_not(self):
        evening, model = both("straight", 3, 1, all_come(6) + [("call",), ("enter", 0, 0, 0, 5), ("strike", 0)])
        for _ in range(2):
            evening.undo()
            model.undo()
        for deed in (("come", 0, "x"), ("come", 9, "x"), ("leave", 9), ("enter", 1, 0, 0, 5), ("rule", 0, 0, 0, 11, 0),
                     ("amend", 0, 1), ("ruling", 0, 1, 1), ("strike", 0)):
            self.assertEqual(self.step(evening, model, deed)[0], "refused", deed)
            self.hold(evening, model)
        for ask in (lambda: evening.sat(5), lambda: evening.byes(9), lambda: evening.plays(9, 0)):
            self.assertRaises(StandError, ask)
        self.assertEqual(evening.undone(), [("enter", 0, 0, 0, 5), ("strike", 0)])
        self.assertEqual(evening.redo(), ("enter", 0, 0, 0, 5))
        self.assertEqual(evening.redo(), ("strike", 0))
        self.assertEqual(evening.slips(), [(0, 0, 0, 0, ("struck",))])

    def test_each_word_is_told_as_a_tuple(self):
        deeds = [("come", 0, "a"), ("come", 3, "b"), ("call",), ("enter", 0, 0, 0, -420), ("amend", 0, 620),
                 ("ruling", 0, 3, 7), ("strike", 0), ("rule", 0, 0, 0, 6, 4), ("leave", 3)]
        evening, model = both("straight", 3, 1, deeds)
        self.assertEqual([evening.undo() for _ in deeds], deeds[::-1])
        self.assertEqual(evening.undone(), deeds)
        self.assertEqual([evening.redo() for _ in deeds], deeds)
        self.assertEqual(evening.deeds(), deeds)

    def test_a_slips_number_comes_again_where_its_entering_was_taken_back(self):
        evening, model = both("straight", 3, 1, all_come(6) + [("call",), ("enter", 0, 0, 0, 5)])
        evening.undo()
        self.assertEqual(evening.enter(0, 1, 0, 6), 0)
        self.assertEqual(evening.slips(), [(0, 0, 1, 0, ("score", 6))])


class Twins(Holding):
    def test_each_goes_its_own_way(self):
        for seed, (kind, tables) in enumerate([("straight", 3), ("skip", 4), ("shared", 4), ("ring", 4)]):
            drawer = Drawer(seed)
            known = [both(kind, tables, seed % 3 + 1, all_come(2 * tables))]
            for step in range(240):
                evening, model = drawer.chance.choice(known)
                if step % 40 == 20:
                    known.append((evening.twin(), model.twin()))
                elif drawer.chance.random() < 0.2:
                    word = drawer.chance.choice(["undo", "redo"])
                    self.assertEqual(outcome(getattr(evening, word)), getattr(model, word)())
                else:
                    self.step(evening, model, drawer.deed(model.state()))
                if step % 8 == 0:
                    for two in known:
                        self.hold(*two)
            self.assertEqual(len(known), 7)

    def test_the_same_to_take_back_and_to_do_again(self):
        deeds = all_come(6) + [("call",), ("enter", 0, 0, 0, 5), ("amend", 0, 6), ("strike", 0)]
        evening, model = both("straight", 3, 2, deeds)
        for _ in range(3):
            evening.undo()
            model.undo()
        twin = evening.twin()
        again = twin.twin()
        self.assertIs(type(twin), Evening)
        self.assertIs(twin.plan, evening.plan)
        self.assertEqual(twin.packets, 2)
        for other in (twin, again):
            self.hold(other, model)
        self.assertEqual([twin.redo() for _ in range(3)], deeds[-3:])
        self.hold(evening, model)
        self.hold(again, model)
        while again.deeds():
            again.undo()
        self.hold(evening, model)
        self.assertEqual(twin.deeds(), deeds)
        evening.come(0, "x") if not evening.there() else evening.leave(0)
        self.assertEqual(evening.undone(), [])
        self.assertEqual(again.undone(), deeds)
        self.assertEqual(twin.deeds(), deeds)


class Apart(Holding):
    def test_two_evenings_of_one_plan_object_by_turns(self):
        for seed, (kind, tables) in enumerate([("straight", 5), ("skip", 4), ("shared", 4), ("ring", 4)]):
            plan = Plan(kind, tables)
            rows = copy.deepcopy(plan.rows())
            drawer = Drawer(30 + seed)
            evenings = [(Evening(plan, packets), Model(kind, tables, packets)) for packets in (1, 3)]
            for evening, model in evenings:
                for deed in all_come(2 * tables, (0,)):
                    self.step(evening, model, deed)
            for _ in range(80):
                for evening, model in evenings:
                    self.step(evening, model, drawer.deed(model.state()))
                for evening, model in evenings:
                    self.hold(evening, model)
            self.assertEqual(plan.rows(), rows)
            self.assertEqual(rows, rows_of(kind, tables))

    def test_refusals_have_their_words(self):
        evening, model = both("straight", 3, 1, all_come(6, (5,)) + [("call",), ("enter", 0, 0, 0, 5), ("strike", 0)])
        for deed, word in (
            (("come", 6, "a"), "no pair"), (("come", 5, "A"), "bad name"), (("come", 0, "a"), "seated"),
            (("come", 5, "p0"), "taken"), (("leave", 5), "away"), (("enter", 1, 0, 0, 0), "not called"),
            (("enter", 0, 3, 0, 0), "no table"), (("enter", 0, 0, 1, 0), "no packet"), (("enter", 0, 2, 0, 0), "out"),
            (("enter", 0, 0, 0, 10000), "bad score"), (("amend", 1, 0), "no slip"), (("amend", 0, 0), "struck"),
        ):
            with self.subTest(deed), self.assertRaises(StandError) as caught:
                do(evening, deed)
            self.assertEqual(caught.exception.word, word)
            self.assertEqual(type(caught.exception).__bases__, (errors.StandError,))
        self.assertEqual(evening.enter(0, 0, 0, 0), 1)
        with self.assertRaises(errors.Scored):
            evening.enter(0, 0, 0, 0)


if __name__ == "__main__":
    unittest.main()

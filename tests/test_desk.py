"""The desk: each line, its answer and the evening behind it, held against patterns and the model."""

import itertools
import random
import re
import unittest

from byestand import errors
from byestand.desk import Desk
from byestand.ends import lead, sure
from byestand.errors import BadPlan
from byestand.evening import Evening
from byestand.plans import Plan

from model import NUMBER, Drawer, Model, all_come, answers_of, deed_in, do
from moves import FAR, SIXTY

ASKED = {"undo": 0, "redo": 0, "total": 1, "place": 1, "lead": 2, "sure": 1, "seat": 2, "open": 0}
WORDS = {name: getattr(errors, name) for name in dir(errors) if name[0].isupper() and name != "StandError"}
KINDS = [("straight", 3), ("skip", 4), ("shared", 4), ("ring", 4)]


def word_of(name):
    kind = WORDS[name]
    return (kind(0) if name == "BadText" else kind()).word


def row_of(deed):
    return " ".join(str(part) for part in deed)


def shown(number):
    return f"{number.numerator}/{number.denominator}"


def asked_in(line):
    for word, many in ASKED.items():
        found = re.fullmatch(word + (" " + NUMBER) * many, line)
        if found:
            return (word,) + tuple(int(part) for part in found.groups())
    return None


class Answerer:
    """What a desk is to answer, by the model; leads are those of an evening made anew, which have tests of their own."""

    def __init__(self, model):
        self.model = model

    def answer(self, line):
        deed, asked = deed_in(line), asked_in(line)
        if deed is not None:
            told, what = self.model.do(deed)
            good = f"slip {what}" if deed[0] in ("enter", "rule") else "done"
            return good if told == "told" else f"no: {word_of(what)}"
        if asked is None:
            return "no: bad line"
        if asked[0] in ("undo", "redo"):
            told, what = getattr(self.model, asked[0])()
            return row_of(what) if told == "told" else "no: nothing left"
        return getattr(self, "say_" + asked[0])(*asked[1:])

    def is_pair(self, pair):
        return 0 <= pair < self.model.state().pairs()

    def anew(self):
        evening = Evening(Plan(self.model.kind, self.model.tables), self.model.packets)
        for deed in self.model.done:
            do(evening, deed)
        return evening

    def say_total(self, pair):
        return shown(self.model.state().totals()[pair]) if self.is_pair(pair) else "no: no pair"

    def say_place(self, pair):
        if not self.is_pair(pair):
            return "no: no pair"
        state = self.model.state()
        field = [at for at, pairs in enumerate(state.fields()) if pair in pairs][0]
        return str([place for place, other in state.places(field) if other == pair][0])

    def say_lead(self, one, other):
        if not self.is_pair(one) or not self.is_pair(other):
            return "no: no pair"
        if one == other:
            return "no: told twice"
        over, under = lead(self.anew(), one, other)[0]
        return f"{over}/{under}"

    def say_sure(self, pair):
        if not self.is_pair(pair):
            return "no: no pair"
        return "yes" if sure(self.anew(), pair) else "no"

    def say_seat(self, at, pair):
        if not 0 <= at < len(self.model.rows):
            return "no: no round"
        if not self.is_pair(pair):
            return "no: no pair"
        for table, (first, second, _) in enumerate(self.model.rows[at]):
            if pair in (first, second):
                return f"{table} first" if pair == first else f"{table} second"

    def say_open(self):
        return str(len(self.model.state().gaps()))


class Holding(unittest.TestCase):
    def desk(self, kind, tables, packets, deeds=()):
        desk, model = Desk(Plan(kind, tables), packets), Model(kind, tables, packets)
        for deed in deeds:
            do(desk.evening, deed)
            model.do(deed)
        return desk, Answerer(model)

    def hold(self, desk, answerer, line):
        very = desk.evening
        expected = answerer.answer(line)
        told = desk.say(line)
        self.assertEqual(told, expected, line)
        self.assertIs(type(told), str)
        self.assertIs(desk.evening, very)
        self.assertEqual(answers_of(desk.evening), answerer.model.answers(), line)
        return told


class Making(unittest.TestCase):
    def test_its_evening(self):
        for kind, tables in KINDS:
            for packets in (1, 2, 3):
                plan = Plan(kind, tables)
                desk = Desk(plan, packets)
                self.assertIs(type(desk.evening), Evening)
                self.assertIs(desk.evening.plan, plan)
                self.assertEqual(desk.evening.packets, packets)
                self.assertEqual(desk.evening.deeds(), [])

    def test_bad_plan(self):
        for packets in (0, 4, -1) + FAR:
            with self.subTest(packets), self.assertRaises(BadPlan):
                Desk(Plan("straight", 3), packets)


class Written(Holding):
    def test_an_evening_line_by_line(self):
        desk = Desk(Plan("straight", 3), 1)
        for line, answer in (
            ("come 0 ann", "done"), ("come 1 bob", "done"), ("come 2 cat", "done"), ("come 3 dan", "done"),
            ("come 4 eve", "done"), ("come 5 fay", "done"), ("come 5 gus", "no: seated"), ("open", "9"), ("call", "done"),
            ("enter 0 0 0 -420", "slip 0"), ("enter 0 0 0 1", "no: scored"), ("rule 0 1 0 6 4", "slip 1"),
            ("total 0", "2/1"), ("total 1", "12/5"), ("place 0", "2"), ("place 1", "1"), ("place 5", "3"),
            ("lead 0 1", "91/10"), ("lead 1 0", "99/10"), ("sure 0", "no"), ("seat 1 5", "0 second"), ("seat 2 1", "1 first"),
            ("open", "7"), ("amend 0 620", "done"), ("ruling 1 3 7", "done"), ("total 1", "6/5"), ("strike 0", "done"),
            ("total 0", "0/1"), ("undo", "strike 0"), ("undo", "ruling 1 3 7"), ("redo", "ruling 1 3 7"),
            ("leave 3", "done"), ("undo", "leave 3"), ("redo", "leave 3"), ("redo", "no: nothing left"),
            ("leave 3", "no: away"), ("undo", "leave 3"), ("come 9 x", "no: no pair"), ("redo", "leave 3"), ("sing", "no: bad line"),
        ):
            self.assertEqual(desk.say(line), answer, line)

    def test_yes_where_somebody_is_sure(self):
        desk = Desk(Plan("straight", 3), 1)
        for deed in all_come(6) + [("call",)] * 3:
            desk.say(row_of(deed))
        for at, table, packet in desk.evening.gaps():
            self.assertTrue(desk.say(f"enter {at} {table} {packet} {10 * table}").startswith("slip "))
        self.assertEqual([desk.say(f"sure {pair}") for pair in range(6)], ["no", "no", "yes", "no", "no", "no"])
        self.assertEqual(desk.say("open"), "0")
        self.assertEqual(desk.say("lead 0 2"), "-12/1")

    def test_each_refusals_word(self):
        desk, answerer = self.desk("straight", 3, 1, all_come(6, (5,)) + [("call",), ("enter", 0, 0, 0, 5), ("strike", 0)])
        for line, word in (
            ("come 6 a", "no pair"), ("come 5 A", "bad name"), ("come 5 ", "bad name"), ("come 0 a", "seated"),
            ("come 5 p0", "taken"), ("leave 5", "away"), ("leave -1", "no pair"), ("enter 1 0 0 0", "not called"),
            ("enter 0 3 0 0", "no table"), ("enter 0 0 1 0", "no packet"), ("enter 0 2 0 0", "out"),
            ("enter 0 0 0 10000", "bad score"), ("rule 0 0 0 11 0", "bad score"), ("amend 1 0", "no slip"),
            ("amend 0 0", "struck"), ("ruling 0 1 1", "struck"), ("strike 0", "struck"), ("redo", "nothing left"),
            ("total 6", "no pair"), ("place -1", "no pair"), ("lead 0 6", "no pair"), ("lead 6 6", "no pair"),
            ("lead 2 2", "told twice"), ("sure 6", "no pair"), ("seat 3 0", "no round"), ("seat 3 9", "no round"),
            ("seat 0 6", "no pair"),
        ):
            self.assertEqual(self.hold(desk, answerer, line), f"no: {word}", line)
        for line in ("call", "call"):
            self.assertEqual(self.hold(desk, answerer, line), "done")
        self.assertEqual(self.hold(desk, answerer, "call"), "no: no round")


class Lines(Holding):
    def lines(self, chance, drawer, state):
        """Lines of all forms, most of them good."""
        if chance.random() < 0.6:
            return row_of(drawer.deed(state))
        word = chance.choice(list(ASKED))
        return row_of((word,) + tuple(drawer.number(state.pairs()) for _ in range(ASKED[word])))

    def bent(self, chance, line):
        at = chance.randrange(len(line) + 1)
        sign = chance.choice(" \n-+0179aZcz./~")
        return chance.choice([line[:at] + sign + line[at:], line[:at] + line[at + 1:], line[:at] + sign + line[at + 1:],
                              line + " ", " " + line, line + "\n", line.replace(" ", "  ", 1), line.upper(), line + " 0"])

    def test_long_talks(self):
        for seed, (kind, tables) in enumerate(KINDS):
            chance, drawer = random.Random(seed), Drawer(seed)
            desk, answerer = self.desk(kind, tables, seed % 3 + 1, all_come(2 * tables, (seed,)))
            told = set()
            for _ in range(260):
                line = self.lines(chance, drawer, answerer.model.state())
                if chance.random() < 0.25:
                    line = self.bent(chance, line)
                told.add(self.hold(desk, answerer, line).split(" ")[0])
            self.assertTrue({"done", "slip", "no:"} <= told, told)

    def test_nearly_of_a_form(self):
        for deeds in ((), all_come(6) + [("call",), ("enter", 0, 0, 0, 5)]):
            desk, answerer = self.desk("straight", 3, 2, deeds)
            if deeds:
                for _ in range(2):
                    desk.evening.undo()
                    answerer.model.undo()
            kept = answers_of(desk.evening)
            for line in (
                "", " ", "\n", "Call", "call ", " call", "call\n", "\ncall", "call 0", "call call", "undo ", "undo 1", "undo\n",
                "redo ", " redo", "redo 0", "redo\n", "open ", "open 0", "open\n", "opens", "Open", "total", "total ", "total  0",
                "total 0 ", "total 0\n", "total 00", "total 01", "total -0", "total +0", "total +1", "total x", "total 1 2",
                "total 1.0", "total 0x1", "total 1_0", "place", "place 0 0", "place -0", "place 0 ", "lead", "lead 0",
                "lead 0 ", "lead 0 1 ", "lead 0 1 2", "lead 0  1", "lead 0 01", "lead 0 1\n", "lead 0,1", "sure", "sure ",
                "sure ann", "sure 0 0", "seat", "seat 0", "seat 0 0 0", "seat 0 -0", "seat 00 0", "seat 0 first", "come",
                "come 0", "come 0 a b", "come 0  ", "come 0 ann ", "come  0 ann", "come x ann", "come 00 ann", "come -0 ann",
                "leave", "leave ", "leave 0 0", "leave 0\n", "enter", "enter 0 0 0", "enter 0 0 0 0 0", "enter 0 0 0 ",
                "enter 0 0 0 +5", "enter 0 0 0 05", "enter 0 0 0 -0", "enter 0 0 0 5\n", "enter 0\n0 0 5", "rule 0 0 0 5",
                "rule 0 0 0 5 5 5", "rule 0 0 0 5 05", "amend 0", "amend 0 0 0", "amend 0 -", "amend 0 - 5", "amend_ruling 0 5 5",
                "ruling 0 5", "ruling 0 5 5 5", "strike", "strike 0 0", "strike 0x0", "evening straight 3 1", "twin",
                "gaps", "top 0", "points_of 0 0", "greatest 0", "least 0", "done", "slip 0", "no: bad line",
                "total " + "9" * 61, "total -" + "9" * 61, "total " + "0" * 61, "total " + "0" * 59 + "1",
                "enter 0 0 0 1" + "0" * 60, "leave 1" + "0" * 60, "seat 1" + "0" * 60 + " 0",
            ):
                self.assertEqual(self.hold(desk, answerer, line), "no: bad line", line)
            self.assertEqual(answers_of(desk.evening), kept)
            if deeds:
                self.assertEqual(desk.say("redo"), "call")
                self.assertEqual(desk.say("redo"), "enter 0 0 0 5")

    def test_any_text_without_a_blank_is_read_as_a_name(self):
        desk, answerer = self.desk("straight", 3, 1)
        for name in ("", "\n", "ann\n", "a\nb", "ANN", "-1", "5", "ab~", "abcdefghi"):
            self.assertEqual(self.hold(desk, answerer, f"come 0 {name}"), "no: bad name")
            self.assertEqual(self.hold(desk, answerer, f"come 6 {name}"), "no: no pair")
        for pair, name in enumerate(("a", "abcdefgh", "z9")):
            self.assertEqual(self.hold(desk, answerer, f"come {pair} {name}"), "done")

    def test_numbers_of_sixty_figures_are_numbers(self):
        desk, answerer = self.desk("straight", 3, 1, all_come(6) + [("call",)])
        for number in (SIXTY, -SIXTY, 10 ** 59, -(10 ** 59)):
            for line, answer in ((f"total {number}", "no: no pair"), (f"seat {number} 0", "no: no round"),
                                 (f"enter 0 0 0 {number}", "no: bad score"), (f"leave {number}", "no: no pair"),
                                 (f"come {number} ann", "no: no pair"), (f"amend {number} 0", "no: no slip"),
                                 (f"enter {number} 0 0 0", "no: not called"), (f"rule 0 0 0 {number} 5", "no: bad score")):
                self.assertEqual(self.hold(desk, answerer, line), answer)
                self.assertEqual(self.hold(desk, answerer, line.replace(str(number), f"{number}0")), "no: bad line")

    def test_refused_lines_leave_what_can_be_done_again(self):
        desk, answerer = self.desk("straight", 3, 1, all_come(6) + [("call",), ("enter", 0, 0, 0, 5)])
        for _ in range(3):
            self.hold(desk, answerer, "undo")
        for line in ("come 0 x", "leave 5", "enter 0 0 0 5", "amend 0 5", "strike 0", "bad", "total 9", "total 0", "lead 0 1",
                     "sure 0", "seat 0 0", "open", "place 0"):
            self.hold(desk, answerer, line)
        self.assertEqual([self.hold(desk, answerer, "redo") for _ in range(4)],
                         ["come 5 p5", "call", "enter 0 0 0 5", "no: nothing left"])


class ByHand(Holding):
    def test_deeds_done_by_hand_between_two_lines(self):
        for seed, (kind, tables) in enumerate(KINDS):
            chance, drawer = random.Random(seed + 9), Drawer(seed + 9)
            desk, answerer = self.desk(kind, tables, 2, all_come(2 * tables))
            for _ in range(120):
                if chance.random() < 0.4:
                    deed = drawer.deed(answerer.model.state())
                    if answerer.model.do(deed)[0] == "told":
                        do(desk.evening, deed)
                elif chance.random() < 0.2:
                    if answerer.model.undo()[0] == "told":
                        desk.evening.undo()
                else:
                    word = chance.choice(list(ASKED))
                    numbers = [drawer.number(len(answerer.model.rows)) for _ in range(ASKED[word])]
                    self.hold(desk, answerer, row_of([word] + numbers))

    def test_two_desks_of_one_plan(self):
        plan = Plan("straight", 3)
        one, other = Desk(plan, 1), Desk(plan, 2)
        one.say("come 0 ann")
        other.say("come 0 bob")
        self.assertEqual((one.evening.there(), other.evening.there()), ([(0, "ann")], [(0, "bob")]))
        self.assertEqual(one.say("undo"), "come 0 ann")
        self.assertEqual((one.evening.there(), other.evening.there()), ([], [(0, "bob")]))

    def test_every_seat(self):
        for kind, tables in KINDS:
            desk, answerer = self.desk(kind, tables, 1)
            for at, pair in itertools.product(range(-1, len(answerer.model.rows) + 1), range(-1, 2 * tables + 1)):
                self.assertEqual(desk.say(f"seat {at} {pair}"), answerer.answer(f"seat {at} {pair}"))


if __name__ == "__main__":
    unittest.main()

"""An evening kept in another way, for the tests to hold the program against.

Here an evening is nothing but its deeds: whatever is asked is found by going through all of them anew, and
points are found with Python's own fractions, straight by the document's words.
"""

import itertools
import random
import re
from fractions import Fraction
from math import gcd

from byestand.evening import Evening
from byestand.plans import Plan

from moves import SIXTY, rows_of

NAME = re.compile(r"[a-z][a-z0-9]{0,7}\Z")
NUMBER = r"(0|-?[1-9][0-9]{0,59})"
FORMS = {"come": f" {NUMBER} ([^ ]*)", "leave": f" {NUMBER}", "call": "", "enter": f" {NUMBER}" * 4,
         "rule": f" {NUMBER}" * 5, "amend": f" {NUMBER}" * 2, "ruling": f" {NUMBER}" * 3, "strike": f" {NUMBER}"}
METHODS = {"ruling": "amend_ruling"}
ALL_WORDS = tuple(FORMS)


def do(evening, deed):
    """Does a deed on an evening of the program; what it tells."""
    return getattr(evening, METHODS.get(deed[0], deed[0]))(*deed[1:])


def deed_in(row):
    """The deed that a row writes, or None."""
    for word, form in FORMS.items():
        found = re.fullmatch(word + form, row)
        if found:
            name_at = 1 if word == "come" else None
            return (word,) + tuple(part if at == name_at else int(part) for at, part in enumerate(found.groups()))
    return None


def fraction(told):
    """A told fraction as one of Python's own, where it is in lowest terms."""
    over, under = told
    assert type(told) is tuple and under > 0 and gcd(over, under) == 1, told
    return Fraction(over, under)


def outcome(ask):
    """What a call tells, or the name of its refusal."""
    try:
        return ("told", ask())
    except ValueError as refusal:
        return ("refused", type(refusal).__name__)


class State:
    """How all stands behind some deeds."""

    def __init__(self, rows, packets):
        self.rows, self.packets = rows, packets
        self.there, self.seatings, self.slips = {}, [], []

    def follow(self, deed):
        word, *handed = deed
        if word == "come":
            self.there[handed[0]] = handed[1]
        elif word == "leave":
            del self.there[handed[0]]
        elif word == "call":
            self.seatings.append(dict(self.there))
        elif word == "enter":
            self.slips.append(handed[:3] + [("score", handed[3])])
        elif word == "rule":
            self.slips.append(handed[:3] + [("ruling",) + tuple(handed[3:])])
        elif word == "amend":
            self.slips[handed[0]][3] = ("score", handed[1])
        elif word == "ruling":
            self.slips[handed[0]][3] = ("ruling",) + tuple(handed[1:])
        elif word == "strike":
            self.slips[handed[0]][3] = ("struck",)

    def pairs(self):
        return 2 * len(self.rows[0])

    def sitting(self, at):
        return self.seatings[at] if at < len(self.seatings) else self.there

    def plays(self, at, table):
        return all(pair in self.sitting(at) for pair in self.rows[at][table][:2])

    def has_slip(self, place):
        return any(tuple(slip[:3]) == place and slip[3] != ("struck",) for slip in self.slips)

    def byes(self, pair):
        found = []
        for at, cells in enumerate(self.rows):
            table = [table for table, cell in enumerate(cells) if pair in cell[:2]][0]
            if pair in self.sitting(at) and not self.plays(at, table):
                found.append(at)
        return found

    def gaps(self):
        found = []
        for at, cells in enumerate(self.rows):
            for table in range(len(cells)):
                for packet in range(self.packets):
                    if self.plays(at, table) and not self.has_slip((at, table, packet)):
                        found.append((at, table, packet))
        return found

    def refusals(self, deed):
        """The names of all refusals that are due, in their order."""
        word, *handed = deed
        due = getattr(self, "due_" + {"rule": "enter", "ruling": "amend"}.get(word, word))(*handed)
        return [name for name, is_due in due if is_due]

    def due_come(self, pair, name):
        others = [other for other, had in self.there.items() if had == name and other != pair]
        return [("NoPair", not 0 <= pair < self.pairs()), ("BadName", not NAME.match(name)),
                ("Seated", pair in self.there), ("Taken", bool(others))]

    def due_leave(self, pair):
        return [("NoPair", not 0 <= pair < self.pairs()), ("Away", pair not in self.there)]

    def due_call(self):
        return [("NoRound", len(self.seatings) == len(self.rows))]

    def due_enter(self, at, table, packet, *what):
        is_seat = 0 <= at < len(self.rows) and 0 <= table < len(self.rows[0])
        return [("NotCalled", not 0 <= at < len(self.seatings)), ("NoTable", not 0 <= table < len(self.rows[0])),
                ("NoPacket", not 0 <= packet < self.packets), ("Out", is_seat and not self.plays(at, table)),
                ("Scored", self.has_slip((at, table, packet))), ("BadScore", is_bad(what))]

    def due_amend(self, number, *what):
        known = 0 <= number < len(self.slips)
        return [("NoSlip", not known), ("Struck", known and self.slips[number][3] == ("struck",)),
                ("BadScore", bool(what) and is_bad(what))]

    def due_strike(self, number):
        return self.due_amend(number)

    def on_packet(self, number, packet, filling=()):
        """(round, table, what) of all slips for a packet, with the scores of a filling beside them."""
        filled = [(at, table, which, ("score", score)) for at, table, which, score in filling]
        found = []
        for at, table, which, what in [tuple(slip) for slip in self.slips] + filled:
            if which == packet and self.rows[at][table][2] == number and what != ("struck",):
                found.append((at, table, what))
        return sorted(found)

    def many(self, number):
        """How many tables play over a set."""
        places = [(at, table) for at, cells in enumerate(self.rows) for table in range(len(cells))]
        return len([1 for at, table in places if self.rows[at][table][2] == number and self.plays(at, table)])

    def points_of(self, number, packet, filling=()):
        """(round, table, first, second), with Python's own fractions."""
        slips = self.on_packet(number, packet, filling)
        scores = [what[1] for _, _, what in slips if what[0] == "score"]
        many = self.many(number)
        return [(at, table) + worth(what, scores, many) for at, table, what in slips]

    def each_packet(self):
        numbers = {cell[2] for cells in self.rows for cell in cells}
        return list(itertools.product(sorted(numbers), range(self.packets)))

    def sums(self, filling=()):
        """For each pair its total and its top."""
        totals = {pair: [Fraction(0), Fraction(0)] for pair in range(self.pairs())}
        for number, packet in self.each_packet():
            top = 2 * self.many(number) - 2
            for at, table, first, second in self.points_of(number, packet, filling):
                for pair, own in zip(self.rows[at][table][:2], (first, second)):
                    totals[pair][0] += own
                    totals[pair][1] += top
        return totals

    def totals(self, filling=()):
        return {pair: total for pair, (total, _) in self.sums(filling).items()}

    def fields(self):
        half = len(self.rows[0])
        seconds = {cell[1] for cells in self.rows for cell in cells}
        return [list(range(half)), list(range(half, 2 * half))] if min(seconds) == half else [list(range(2 * half))]

    def places(self, field):
        totals = self.totals()
        pairs = self.fields()[field]
        return sorted((1 + sum(totals[other] > totals[pair] for other in pairs), pair) for pair in pairs)


def is_bad(what):
    """True for a score, or the tenths of a ruling, out of bounds."""
    low, high = (-9999, 9999) if len(what) == 1 else (0, 10)
    return any(not low <= number <= high for number in what)


def worth(what, scores, many):
    """The points of both pairs by a slip, [13] and [14] word by word."""
    if what[0] == "ruling":
        return tuple(Fraction(tenths * (2 * many - 2), 10) for tenths in what[1:])
    others = list(scores)
    others.remove(what[1])
    half_wins = 2 * len([other for other in others if other < what[1]]) + others.count(what[1])
    first = Fraction((half_wins + 1) * many - len(scores), len(scores))
    return (first, 2 * many - 2 - first)


class Model:
    """An evening as the list of its deeds, and of those that can be done again."""

    def __init__(self, kind, tables, packets):
        self.kind, self.tables, self.packets = kind, tables, packets
        self.rows = rows_of(kind, tables)
        self.done, self.again = [], []
        self.kept = None

    def state(self):
        if self.kept is None:
            self.kept = State(self.rows, self.packets)
            for deed in self.done:
                self.kept.follow(deed)
        return self.kept

    def refusals(self, deed):
        return self.state().refusals(deed)

    def do(self, deed):
        """What a deed tells, or the name of its refusal."""
        due = self.refusals(deed)
        if due:
            return ("refused", due[0])
        told = {"call": len(self.state().seatings), "enter": len(self.state().slips), "rule": len(self.state().slips)}
        self.done, self.again, self.kept = self.done + [deed], [], None
        return ("told", told.get(deed[0]))

    def undo(self):
        if not self.done:
            return ("refused", "NothingLeft")
        self.again, self.done, self.kept = [self.done[-1]] + self.again, self.done[:-1], None
        return ("told", self.again[0])

    def redo(self):
        if not self.again:
            return ("refused", "NothingLeft")
        self.done, self.again, self.kept = self.done + [self.again[0]], self.again[1:], None
        return ("told", self.done[-1])

    def twin(self):
        other = Model(self.kind, self.tables, self.packets)
        other.done, other.again = list(self.done), list(self.again)
        return other

    def answers(self):
        """All that can be asked of an evening itself, as answers_of tells it."""
        state = self.state()
        seats = [(at, table) for at in range(len(self.rows)) for table in range(self.tables)]
        pairs = range(state.pairs())
        seatings = list(enumerate(state.seatings))
        return {
            "deeds": self.done,
            "undone": self.again,
            "there": sorted(state.there.items()),
            "called": len(seatings),
            "sat": [sorted(seating.items()) for _, seating in seatings],
            "plays": [state.plays(at, table) for at, table in seats],
            "byes": [state.byes(pair) for pair in pairs],
            "sitters": [[(at, seating[pair]) for at, seating in seatings if pair in seating] for pair in pairs],
            "slips": [(number,) + tuple(slip) for number, slip in enumerate(state.slips)],
            "gaps": state.gaps(),
        }


def answers_of(evening):
    """All that an evening of the program tells of itself."""
    plan = evening.plan
    seats = [(at, table) for at in range(plan.rounds()) for table in range(plan.tables)]
    return {
        "deeds": evening.deeds(),
        "undone": evening.undone(),
        "there": evening.there(),
        "called": evening.called(),
        "sat": [evening.sat(at) for at in range(evening.called())],
        "plays": [evening.plays(at, table) for at, table in seats],
        "byes": [evening.byes(pair) for pair in range(plan.pairs())],
        "sitters": [evening.sitters(pair) for pair in range(plan.pairs())],
        "slips": evening.slips(),
        "gaps": evening.gaps(),
    }


def both(kind, tables, packets, deeds=()):
    """An evening of the program and its model, with deeds done that are all good."""
    evening, model = Evening(Plan(kind, tables), packets), Model(kind, tables, packets)
    for deed in deeds:
        do(evening, deed)
        assert model.do(deed)[0] == "told", deed
    return evening, model


def all_come(pairs, less=()):
    return [("come", pair, f"p{pair}") for pair in range(pairs) if pair not in less]


class Drawer:
    """Draws deeds, most of them good, for an evening that stands as its model does."""

    def __init__(self, seed):
        self.chance = random.Random(seed)
        # Few scores that lie close together, so that many are alike, with the outermost ones among them.
        self.scores = [-9999, -9998, -420, -50, -1, 0, 0, 1, 2, 50, 50, 420, 620, 9998, 9999]

    def number(self, many):
        """Mostly one of 0 to many - 1."""
        if self.chance.random() < 0.97:
            return self.chance.randrange(max(many, 1))
        return self.chance.choice([-1, -2, many, many + 1, SIXTY, -SIXTY, 10 ** 59])

    def name(self, state):
        free = [f"{letter}{figure}" for letter in "abz" for figure in range(9)] + ["a", "abcdefgh", "z2345678"]
        if self.chance.random() < 0.9:
            return self.chance.choice(free)
        return self.chance.choice(["", "abcdefghi", "9a", "Ann", "an n", "ann\n", "a-b"] + list(state.there.values()))

    def score(self):
        if self.chance.random() < 0.95:
            return self.chance.choice(self.scores)
        return self.chance.choice([-10000, 10000, SIXTY, -SIXTY])

    def tenths(self):
        return self.chance.choice(list(range(11)) * 5 + [-1, 11, SIXTY])

    def place(self, state):
        """Mostly an open one in a called round."""
        gaps = [gap for gap in state.gaps() if gap[0] < len(state.seatings)]
        if gaps and self.chance.random() < 0.9:
            return self.chance.choice(gaps)
        return (self.number(len(state.rows)), self.number(len(state.rows[0])), self.number(state.packets))

    def deed(self, state, words=ALL_WORDS, weights=(6, 1, 3, 16, 4, 3, 2, 2)):
        word = self.chance.choices(words, weights)[0]
        if word == "come":
            return ("come", self.number(state.pairs()), self.name(state))
        if word == "leave":
            return ("leave", self.number(state.pairs()))
        if word == "call":
            return ("call",)
        if word == "enter":
            return ("enter",) + self.place(state) + (self.score(),)
        if word == "rule":
            return ("rule",) + self.place(state) + (self.tenths(), self.tenths())
        if word == "amend":
            return ("amend", self.number(len(state.slips)), self.score())
        if word == "ruling":
            return ("ruling", self.number(len(state.slips)), self.tenths(), self.tenths())
        return ("strike", self.number(len(state.slips)))


def draw_step(drawer, evening, model, back):
    """Does a drawn deed if it is good, or, as often as back tells, takes one back or does one again."""
    if drawer.chance.random() < back:
        word = drawer.chance.choice(["undo", "redo"])
        if getattr(model, word)()[0] == "told":
            getattr(evening, word)()
    else:
        deed = drawer.deed(model.state())
        if model.do(deed)[0] == "told":
            do(evening, deed)


def drawn_evening(kind, tables, packets, seed, steps):
    """An evening of drawn deeds behind which all is as its model has it, and that model."""
    drawer = Drawer(seed)
    absent = drawer.chance.sample(range(2 * tables), drawer.chance.choice([0, 0, 1, 2]))
    evening, model = both(kind, tables, packets, all_come(2 * tables, absent))
    for _ in range(steps):
        draw_step(drawer, evening, model, 0)
    return evening, model

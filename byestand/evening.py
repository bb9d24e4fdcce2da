"""An evening: who is there, the rounds that are called, the slips, and what is taken back and done again."""

from byestand.errors import Away, BadName, BadPlan, BadScore, NoPacket, NoRound, NoSlip, NotCalled, NothingLeft
from byestand.errors import Out, Scored, Seated, Struck, Taken
from byestand.guides import where
from byestand.points import is_score, is_share

MOST_PACKETS = 3
MOST_SIGNS = 8
LETTERS = "abcdefghijklmnopqrstuvwxyz"
FIGURES = "0123456789"
STRUCK = ("struck",)


def is_name(text):
    """True where a text is a name."""
    if text == "" or len(text) > MOST_SIGNS or text[0] not in LETTERS:
        return False
    return all([sign in LETTERS or sign in FIGURES for sign in text])


def exchanged(things, at, thing):
    """Things with another one at a place."""
    return things[:at] + (thing,) + things[at + 1:]


def those_in(names):
    """The pairs for whom somebody is there, with the names."""
    return [(pair, name) for pair, name in enumerate(names) if name is not None]


def need_score(score):
    """Refuses a number that is no score."""
    if not is_score(score):
        raise BadScore()


def need_shares(first, second):
    """Refuses tenths that a ruling can't give."""
    if not is_share(first) or not is_share(second):
        raise BadScore()


class Standing:
    """How an evening stands behind a deed. It never changes, so that twins and what is taken back may share it."""

    def __init__(self, names, sittings, handed):
        # The name of who is there for each pair, or None.
        self.names = names
        # Such names for each called round, as they were when it was called.
        self.sittings = sittings
        # The slips (round, table, packet, what), each at the place of its number.
        self.handed = handed

    def names_for(self, at):
        """Who sits in a called round, or is there now for one not yet called."""
        if at < len(self.sittings):
            return self.sittings[at]
        return self.names


class Evening:
    """An evening over a plan, with as many packets in each set."""

    def __init__(self, plan, packets):
        if packets < 1 or packets > MOST_PACKETS:
            raise BadPlan()
        self.plan = plan
        self.packets = packets
        self.now = Standing((None,) * plan.pairs(), (), ())
        # Each deed that stands, with how all stood ahead of it.
        self.past = []
        # Each deed that was taken back, the next one last, with how all stood behind it.
        self.ahead = []

    def stand(self, deed, names, sittings, handed):
        """Lets a deed that is good be done."""
        self.past.append((deed, self.now))
        self.ahead = []
        self.now = Standing(names, sittings, handed)

    def put_name(self, deed, pair, name):
        """Lets somebody, or nobody, be there for a pair."""
        self.stand(deed, exchanged(self.now.names, pair, name), self.now.sittings, self.now.handed)

    def put_slips(self, deed, handed):
        """Lets other slips stand."""
        self.stand(deed, self.now.names, self.now.sittings, handed)

    def come(self, pair, name):
        """Somebody comes for a pair."""
        self.plan.need_pair(pair)
        if not is_name(name):
            raise BadName()
        if self.now.names[pair] is not None:
            raise Seated()
        if name in self.now.names:
            raise Taken()
        self.put_name(("come", pair, name), pair, name)

    def leave(self, pair):
        """Whoever is there for a pair leaves."""
        self.plan.need_pair(pair)
        if self.now.names[pair] is None:
            raise Away()
        self.put_name(("leave", pair), pair, None)

    def call(self):
        """The next round is called; its number."""
        at = self.called()
        if at == self.plan.rounds():
            raise NoRound()
        self.stand(("call",), self.now.names, self.now.sittings + (self.now.names,), self.now.handed)
        return at

    def need_called(self, at):
        """Refuses a round that is not one of those called."""
        if at < 0 or at >= self.called():
            raise NotCalled()

    def need_packet(self, packet):
        """Refuses a packet that there isn't."""
        if packet < 0 or packet >= self.packets:
            raise NoPacket()

    def need_place(self, at, table, packet):
        """Refuses a place at which no slip may be handed in."""
        self.need_called(at)
        self.plan.need_table(table)
        self.need_packet(packet)
        if not self.plays(at, table):
            raise Out()
        if (at, table, packet) in self.whats():
            raise Scored()

    def hand_in(self, deed, slip):
        """Lets a slip be handed in; its number."""
        number = len(self.now.handed)
        self.put_slips(deed, self.now.handed + (slip,))
        return number

    def enter(self, at, table, packet, score):
        """A slip with a score is handed in; its number."""
        self.need_place(at, table, packet)
        need_score(score)
        return self.hand_in(("enter", at, table, packet, score), (at, table, packet, ("score", score)))

    def rule(self, at, table, packet, first, second):
        """A slip with a ruling is handed in; its number."""
        self.need_place(at, table, packet)
        need_shares(first, second)
        return self.hand_in(("rule", at, table, packet, first, second), (at, table, packet, ("ruling", first, second)))

    def need_slip(self, number):
        """Refuses a number that no slip got, or whose slip is struck."""
        if number < 0 or number >= len(self.now.handed):
            raise NoSlip()
        if self.now.handed[number][3] == STRUCK:
            raise Struck()

    def put_right(self, deed, number, what):
        """Lets a slip have something else from now on."""
        slip = self.now.handed[number]
        self.put_slips(deed, exchanged(self.now.handed, number, slip[:3] + (what,)))

    def amend(self, number, score):
        """A slip has another score."""
        self.need_slip(number)
        need_score(score)
        self.put_right(("amend", number, score), number, ("score", score))

    def amend_ruling(self, number, first, second):
        """A slip has another ruling."""
        self.need_slip(number)
        need_shares(first, second)
        self.put_right(("ruling", number, first, second), number, ("ruling", first, second))

    def strike(self, number):
        """A slip is no more."""
        self.need_slip(number)
        self.put_right(("strike", number), number, STRUCK)

    def undo(self):
        """Takes the last deed back; the deed."""
        if not self.past:
            raise NothingLeft()
        deed, before = self.past.pop()
        self.ahead.append((deed, self.now))
        self.now = before
        return deed

    def redo(self):
        """Does again what was taken back last; the deed."""
        if not self.ahead:
            raise NothingLeft()
        deed, behind = self.ahead.pop()
        self.past.append((deed, self.now))
        self.now = behind
        return deed

    def twin(self):
        """Another evening that stands as this one does."""
        other = Evening(self.plan, self.packets)
        other.now = self.now
        other.past = list(self.past)
        other.ahead = list(self.ahead)
        return other

    def deeds(self):
        """The deeds that stand, in order."""
        return [deed for deed, before in self.past]

    def undone(self):
        """The deeds that can be done again, the next one first."""
        return [deed for deed, behind in reversed(self.ahead)]

    def there(self):
        """Who is there now: pairs with names, rising."""
        return those_in(self.now.names)

    def sat(self, at):
        """Who sits in a called round: pairs with names, rising."""
        self.need_called(at)
        return those_in(self.now.sittings[at])

    def called(self):
        """How many rounds are called."""
        return len(self.now.sittings)

    def plays(self, at, table):
        """True where a table plays in a round."""
        first, second, number = self.plan.seat(at, table)
        names = self.now.names_for(at)
        return names[first] is not None and names[second] is not None

    def has_bye(self, at, pair):
        """True where a pair has a bye in a round."""
        table, side = where(self.plan, at, pair)
        return self.now.names_for(at)[pair] is not None and not self.plays(at, table)

    def byes(self, pair):
        """The rising list of the rounds in which a pair has a bye."""
        self.plan.need_pair(pair)
        return [at for at in range(self.plan.rounds()) if self.has_bye(at, pair)]

    def sitters(self, pair):
        """Who sat for a pair in called rounds: rounds with names, rising."""
        self.plan.need_pair(pair)
        return [(at, names[pair]) for at, names in enumerate(self.now.sittings) if names[pair] is not None]

    def slips(self):
        """All slips (number, round, table, packet, what), also those struck."""
        return [(number,) + slip for number, slip in enumerate(self.now.handed)]

    def whats(self):
        """What each slip that is not struck has, by its place (round, table, packet)."""
        return {slip[:3]: slip[3] for slip in self.now.handed if slip[3] != STRUCK}

    def playing(self):
        """All places (round, table, packet) of tables that play, rising."""
        found = []
        for at in range(self.plan.rounds()):
            for table in range(self.plan.tables):
                if self.plays(at, table):
                    found += [(at, table, packet) for packet in range(self.packets)]
        return found

    def gaps(self):
        """All places that are open, rising."""
        whats = self.whats()
        return [place for place in self.playing() if place not in whats]

"""All refusals: each has a word of its own, by which it is told."""


class StandError(ValueError):
    """Any refusal."""

    def __init__(self, word):
        ValueError.__init__(self, word)
        self.word = word


class BadRing(StandError):
    """A number that is no ring."""

    def __init__(self):
        StandError.__init__(self, "bad ring")


class NoStarter(StandError):
    """No starter of the ring has an adder."""

    def __init__(self):
        StandError.__init__(self, "no starter")


class BadPlan(StandError):
    """A kind, or a count of tables or packets, that there isn't."""

    def __init__(self):
        StandError.__init__(self, "bad plan")


class NoRound(StandError):
    """A round that there isn't."""

    def __init__(self):
        StandError.__init__(self, "no round")


class NoTable(StandError):
    """A table that there isn't."""

    def __init__(self):
        StandError.__init__(self, "no table")


class NoPair(StandError):
    """A pair, or a field, that there isn't."""

    def __init__(self):
        StandError.__init__(self, "no pair")


class NoSet(StandError):
    """A set that there isn't."""

    def __init__(self):
        StandError.__init__(self, "no set")


class BadSide(StandError):
    """A side that is neither first nor second."""

    def __init__(self):
        StandError.__init__(self, "bad side")


class Twice(StandError):
    """A thing is told twice where it may be told once."""

    def __init__(self):
        StandError.__init__(self, "told twice")


class TooMany(StandError):
    """More rounds than a search is made for."""

    def __init__(self):
        StandError.__init__(self, "too many")


class BadScore(StandError):
    """A score, or a ruling's tenths, out of bounds."""

    def __init__(self):
        StandError.__init__(self, "bad score")


class BadName(StandError):
    """A text that is no name."""

    def __init__(self):
        StandError.__init__(self, "bad name")


class Seated(StandError):
    """Somebody is there for the pair already."""

    def __init__(self):
        StandError.__init__(self, "seated")


class Taken(StandError):
    """Another pair has the name."""

    def __init__(self):
        StandError.__init__(self, "taken")


class Away(StandError):
    """Nobody is there for the pair."""

    def __init__(self):
        StandError.__init__(self, "away")


class NotCalled(StandError):
    """A round that is not one of those called."""

    def __init__(self):
        StandError.__init__(self, "not called")


class NoPacket(StandError):
    """A packet that there isn't."""

    def __init__(self):
        StandError.__init__(self, "no packet")


class Out(StandError):
    """A table that doesn't play."""

    def __init__(self):
        StandError.__init__(self, "out")


class Scored(StandError):
    """There is a slip already."""

    def __init__(self):
        StandError.__init__(self, "scored")


class NoSlip(StandError):
    """No slip got the number."""

    def __init__(self):
        StandError.__init__(self, "no slip")


class Struck(StandError):
    """The slip is struck."""

    def __init__(self):
        StandError.__init__(self, "struck")


class NothingLeft(StandError):
    """There is nothing to take back, or to do again."""

    def __init__(self):
        StandError.__init__(self, "nothing left")


class BadText(StandError):
    """A text that no evening is written as; row is the first row that is wrong."""

    def __init__(self, row):
        StandError.__init__(self, "bad text")
        self.row = row

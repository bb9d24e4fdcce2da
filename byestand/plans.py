"""Plans: who sits where over what, in each round."""

from byestand.errors import BadPlan, NoPair, NoRound, NoSet, NoTable
from byestand.starters import planned

TABLES_OF = {
    "straight": (3, 5, 7, 9),
    "skip": (4, 6, 8),
    "shared": (4, 6, 8),
    "ring": (2, 3, 4, 5, 6),
}


def trios_of(kind, tables):
    """The starter's pairs, each with its adder's number; none in a plan for two fields."""
    if kind != "ring":
        return []
    pairs, adds = planned(2 * tables - 1)
    return [(x, y, b) for (x, y), b in zip(pairs, adds)]


class Plan:
    """A plan for two fields or for one; it never changes."""

    def __init__(self, kind, tables):
        if tables not in TABLES_OF.get(kind, ()):
            raise BadPlan()
        self.kind = kind
        self.tables = tables
        # Finding a starter with an adder is a search, so it is done once for a plan.
        self.trios = trios_of(kind, tables)

    def rounds(self):
        """How many rounds there are."""
        if self.kind == "skip":
            return self.tables - 1
        return self.sets()

    def sets(self):
        """How many sets there are."""
        if self.kind == "ring":
            return 2 * self.tables - 1
        return self.tables

    def pairs(self):
        """How many pairs there are."""
        return 2 * self.tables

    def need_round(self, at):
        """Refuses a round that there isn't."""
        if at < 0 or at >= self.rounds():
            raise NoRound()

    def need_table(self, table):
        """Refuses a table that there isn't."""
        if table < 0 or table >= self.tables:
            raise NoTable()

    def need_pair(self, pair):
        """Refuses a pair that there isn't."""
        if pair < 0 or pair >= self.pairs():
            raise NoPair()

    def need_set(self, number):
        """Refuses a set that there isn't."""
        if number < 0 or number >= self.sets():
            raise NoSet()

    def field(self, pair):
        """The field of a pair, 0 or 1."""
        self.need_pair(pair)
        if self.kind == "ring" or pair < self.tables:
            return 0
        return 1

    def seat(self, at, table):
        """The first pair, the second pair and the set at a table in a round."""
        self.need_round(at)
        self.need_table(table)
        if self.kind == "ring":
            return self.one_field_seat(at, table)
        return self.two_field_seat(at, table)

    def one_field_seat(self, at, table):
        """The seat in a plan for one field."""
        m = self.sets()
        if table == 0:
            return (m, at, at)
        x, y, b = self.trios[table - 1]
        return ((x + at) % m, (y + at) % m, (b + at) % m)

    def two_field_seat(self, at, table):
        """The seat in a plan for two fields."""
        t = self.tables
        half = t // 2
        back = at + 1 if self.kind == "skip" and at >= half else at
        ahead = at + 1 if self.kind == "shared" and table >= half else at
        return (table, t + (table - back) % t, (table + ahead) % t)

    def rows(self):
        """The seats of all tables, round by round."""
        return [[self.seat(at, table) for table in range(self.tables)] for at in range(self.rounds())]

"""Sums: the points of packets, totals, tops and places."""

from byestand.errors import NoPair
from byestand.parts import greater, less, plus
from byestand.points import points_among, ruled, top_of

NOUGHT = (0, 1)


def sheets(evening, whats):
    """For each set and packet the rows (round, table, first, second, what) of all tables that play.

    The rows rise, and what is None where a place has nothing in whats.
    """
    found = {}
    for place in evening.playing():
        at, table, packet = place
        first, second, number = evening.plan.seat(at, table)
        rows = found.setdefault((number, packet), [])
        rows.append((at, table, first, second, whats.get(place)))
    return found


def sheets_now(evening):
    """The sheets of an evening as it stands."""
    return sheets(evening, evening.whats())


def scores_on(rows):
    """The scores on a sheet."""
    return [row[4][1] for row in rows if row[4] is not None and row[4][0] == "score"]


def both_points(rows, what):
    """The points of the first pair and of the second one, by one of the slips of a sheet."""
    many = len(rows)
    if what[0] == "ruling":
        return (ruled(what[1], many), ruled(what[2], many))
    first = points_among(what[1], scores_on(rows), many)
    return (first, less((top_of(many), 1), first))


def points_of(evening, number, packet):
    """The points (round, table, first, second) by each slip of a packet."""
    evening.plan.need_set(number)
    evening.need_packet(packet)
    rows = sheets_now(evening).get((number, packet), [])
    slips = [(at, table, what) for at, table, first, second, what in rows if what is not None]
    return [(at, table) + both_points(rows, what) for at, table, what in slips]


def own_points(rows, pair):
    """The points of a pair by its slip on a sheet, or None where it has none there."""
    # Nobody has a set in two rounds, so no pair is in two rows of a sheet.
    for at, table, first, second, what in rows:
        if what is not None and pair in (first, second):
            return both_points(rows, what)[0 if pair == first else 1]
    return None


def total_on(pages, pair):
    """The total of a pair over all sheets."""
    reached = NOUGHT
    for rows in pages.values():
        own = own_points(rows, pair)
        if own is not None:
            reached = plus(reached, own)
    return reached


def total(evening, pair):
    """The total of a pair."""
    evening.plan.need_pair(pair)
    return total_on(sheets_now(evening), pair)


def top(evening, pair):
    """The top of a pair: what it could have by the slips at which it sat."""
    evening.plan.need_pair(pair)
    pages = sheets_now(evening)
    return (sum([top_of(len(rows)) for rows in pages.values() if own_points(rows, pair) is not None]), 1)


def pairs_in(plan, number):
    """The pairs of a field, rising."""
    return [pair for pair in range(plan.pairs()) if plan.field(pair) == number]


def places(evening, number):
    """The places (place, pair) of all pairs of a field, rising."""
    pairs = pairs_in(evening.plan, number)
    if not pairs:
        raise NoPair()
    pages = sheets_now(evening)
    totals = [total_on(pages, pair) for pair in pairs]
    ahead = [len([other for other in totals if greater(other, own)]) for own in totals]
    return sorted([(many + 1, pair) for many, pair in zip(ahead, pairs)])

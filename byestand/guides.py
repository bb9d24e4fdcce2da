"""Guides: where a pair or a set is in each round, and where whoever sits on a seat goes."""

from byestand.errors import BadSide, NoRound

SIDES = ("first", "second")


def seats_in(plan, at):
    """The seat of each pair in a round that there is."""
    found = {}
    for table in range(plan.tables):
        first, second = plan.seat(at, table)[:2]
        found[first] = (table, "first")
        found[second] = (table, "second")
    return found


def where(plan, at, pair):
    """The seat of a pair in a round."""
    plan.need_round(at)
    plan.need_pair(pair)
    return seats_in(plan, at)[pair]


def meeting(plan, at, pair):
    """The table, the side, the other pair there and the set of a pair, in a round that there is."""
    table, side = seats_in(plan, at)[pair]
    first, second, number = plan.seat(at, table)
    other = second if side == "first" else first
    return (table, side, other, number)


def guide(plan, pair):
    """For each round the table, the side, the other pair there and the set of a pair."""
    plan.need_pair(pair)
    return [meeting(plan, at, pair) for at in range(plan.rounds())]


def tables_with(plan, at, number):
    """The rising list of the tables at which a set is in a round."""
    return [table for table in range(plan.tables) if plan.seat(at, table)[2] == number]


def way_of(plan, number):
    """For each round the rising list of the tables at which a set is."""
    plan.need_set(number)
    return [tables_with(plan, at, number) for at in range(plan.rounds())]


def sitter(plan, at, seat):
    """The pair that sits on a seat in a round that there is."""
    table, side = seat
    plan.need_table(table)
    if side not in SIDES:
        raise BadSide()
    return plan.seat(at, table)[SIDES.index(side)]


def goes(plan, at, seat):
    """The seat, in the next round, of whoever sits on a seat in a round."""
    # Nobody goes on from the last round, so it is refused like one that there isn't.
    if at < 0 or at >= plan.rounds() - 1:
        raise NoRound()
    return where(plan, at + 1, sitter(plan, at, seat))


def walked(plan, seat):
    """The seats, round by round, of the pair that sits on a seat in round 0."""
    pair = sitter(plan, 0, seat)
    return [where(plan, at, pair) for at in range(plan.rounds())]

"""Pairs held against one another: who meets whom, and who has a set from the same side."""

from byestand.errors import TooMany, Twice
from byestand.guides import guide

MOST_ROUNDS = 7


def need_turned(plan, turned):
    """Refuses rounds that there aren't, or that are told twice."""
    for at in turned:
        plan.need_round(at)
    if len(set(turned)) != len(turned):
        raise Twice()


def faced(plan, one, other):
    """The number of rounds in which two pairs meet."""
    plan.need_pair(one)
    plan.need_pair(other)
    return len([across for table, side, across, number in guide(plan, one) if across == other])


def links(guides, one, other):
    """For each set that two pairs have at two tables: the rounds of both, and whether they sit on the same side."""
    had = {}
    for at, (table, side, across, number) in enumerate(guides[other]):
        had[number] = (at, side)
    found = []
    for at, (table, side, across, number) in enumerate(guides[one]):
        if number in had and across != other:
            other_at, other_side = had[number]
            found.append((at, other_at, side == other_side))
    return found


def likes(linked, turned):
    """By how many links two pairs are like, where rounds are turned."""
    # A side is exchanged once for each of the two rounds that is turned.
    return len([same for at, other_at, same in linked if same == ((at in turned) == (other_at in turned))])


def lean(linked, turned):
    """By how many more links two pairs are like than unlike."""
    return 2 * likes(linked, turned) - len(linked)


def beside(plan, turned, one, other):
    """By how many sets two pairs are like, and by how many unlike, where rounds are turned."""
    plan.need_pair(one)
    plan.need_pair(other)
    if one == other:
        raise Twice()
    need_turned(plan, turned)
    linked = links({one: guide(plan, one), other: guide(plan, other)}, one, other)
    like = likes(linked, turned)
    return (like, len(linked) - like)


def all_links(plan):
    """The links of all two pairs of a plan."""
    guides = [guide(plan, pair) for pair in range(plan.pairs())]
    return [links(guides, one, other) for other in range(plan.pairs()) for one in range(other)]


def uneven(all_linked, turned):
    """The sum of the squares of what all two pairs lean by."""
    return sum([lean(linked, turned) ** 2 for linked in all_linked])


def unevenness(plan, turned):
    """The unevenness of a plan where rounds are turned."""
    need_turned(plan, turned)
    return uneven(all_links(plan), turned)


def rising_lists(many):
    """All rising lists of rounds, of so many rounds."""
    found = [[]]
    for at in range(many):
        found = found + [turned + [at] for turned in found]
    return found


def evenest(plan):
    """The first, as lists rise, of the rising lists of rounds with the least unevenness."""
    if plan.rounds() > MOST_ROUNDS:
        raise TooMany()
    all_linked = all_links(plan)
    return min([(uneven(all_linked, turned), turned) for turned in rising_lists(plan.rounds())])[1]

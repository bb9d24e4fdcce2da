"""What may still come: fillings of all that is open, and the ends and leads that they bring.

Nobody has a set in two rounds, so a pair's end is a sum over packets, each filled by itself. Wants are a
list of pairs (pair, sign): the sum of these pairs' ends, each with its sign, is to become as great as it can.
"""

from byestand.errors import Twice
from byestand.parts import plus
from byestand.points import GREATEST_SCORE, LEAST_SCORE, is_score, won
from byestand.sums import NOUGHT, own_points, pairs_in, sheets, sheets_now, total_on


def weight_of(row, wants):
    """How much the half wins of a row are wanted: as much as its first pair's points, less its second pair's."""
    first, second = row[2:4]
    return sum([sign for pair, sign in wants if pair == first]) - sum([sign for pair, sign in wants if pair == second])


def aimed_at(row, weight):
    """The score of a row whose half wins are wanted."""
    # A row's half wins never fall as its score rises, whatever the others have. Of two wanted rows each wins from the
    # other just what that one loses: with unlike signs both are wanted, with like ones the two are always 2 together.
    # So no score is better than the farthest one.
    if row[4] is not None:
        return row[4][1]
    return GREATEST_SCORE if weight > 0 else LEAST_SCORE


def aims_on(rows, wants):
    """The scores of the rows whose half wins are wanted, each with its weight."""
    found = []
    for row in rows:
        weight = weight_of(row, wants)
        ruling = row[4] is not None and row[4][0] == "ruling"
        if weight != 0 and not ruling:
            found.append((aimed_at(row, weight), weight))
    return found


def gain(aims, score):
    """What is gained where a score that isn't wanted itself is held against the aims."""
    return sum([weight * won(aim, score) for aim, weight in aims])


def rest_for(aims):
    """The best score for open rows that aren't wanted themselves."""
    # Such rows are held against the aims alone, so each is best by itself, at, beside or far from an aim.
    near = [aim + step for aim, weight in aims for step in (-1, 0, 1)]
    tried = [score for score in near + [LEAST_SCORE, GREATEST_SCORE] if is_score(score)]
    return max(tried, key=lambda score: gain(aims, score))


def filled(rows, wants):
    """A sheet with the best scores for the wants in its open rows."""
    rest = rest_for(aims_on(rows, wants))
    found = []
    for row in rows:
        weight = weight_of(row, wants)
        score = rest if weight == 0 else aimed_at(row, weight)
        found.append(row[:4] + (("score", score),) if row[4] is None else row)
    return found


def wanted_on(rows, wants):
    """The sum of the wanted pairs' points on a sheet, each with its sign."""
    reached = NOUGHT
    for pair, sign in wants:
        own = own_points(rows, pair)
        if own is not None:
            reached = plus(reached, (sign * own[0], own[1]))
    return reached


def best(pages, wants):
    """The greatest sum of the wanted pairs' ends, each with its sign."""
    reached = NOUGHT
    for rows in pages.values():
        reached = plus(reached, wanted_on(filled(rows, wants), wants))
    return reached


def best_filling(pages, wants):
    """A filling that comes to the greatest sum."""
    found = []
    for (number, packet), rows in pages.items():
        for row, full in zip(rows, filled(rows, wants)):
            if row[4] is None:
                found.append((row[0], row[1], packet, full[4][1]))
    return sorted(found)


def greatest(evening, pair):
    """The greatest end of a pair."""
    evening.plan.need_pair(pair)
    return best(sheets_now(evening), [(pair, 1)])


def least(evening, pair):
    """The least end of a pair."""
    evening.plan.need_pair(pair)
    over, under = best(sheets_now(evening), [(pair, -1)])
    return (-over, under)


def lead(evening, one, other):
    """The greatest lead of a pair over another one, and a filling that comes to it."""
    evening.plan.need_pair(one)
    evening.plan.need_pair(other)
    if one == other:
        raise Twice()
    pages = sheets_now(evening)
    wants = [(one, 1), (other, -1)]
    return (best(pages, wants), best_filling(pages, wants))


def ended(evening, filling, pair):
    """The end of a pair under a filling."""
    evening.plan.need_pair(pair)
    whats = evening.whats()
    for at, table, packet, score in filling:
        whats[(at, table, packet)] = ("score", score)
    return total_on(sheets(evening, whats), pair)


def sure(evening, pair):
    """True where no other pair of the field can still come as far as this one."""
    evening.plan.need_pair(pair)
    pages = sheets_now(evening)
    others = [other for other in pairs_in(evening.plan, evening.plan.field(pair)) if other != pair]
    for other in others:
        if best(pages, [(other, 1), (pair, -1)])[0] >= 0:
            return False
    return True

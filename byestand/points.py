"""Points: how scores of one packet are held against one another, and what a ruling gives."""

from byestand.parts import lowest

LEAST_SCORE = -9999
GREATEST_SCORE = 9999
TENTHS = 10


def is_score(score):
    """True where a number is a score."""
    return LEAST_SCORE <= score <= GREATEST_SCORE


def is_share(tenths):
    """True where a ruling may give so many tenths."""
    return 0 <= tenths <= TENTHS


def top_of(many):
    """What both pairs have together at one of so many tables."""
    return 2 * many - 2


def won(score, other):
    """The half wins of a score against another one."""
    if other < score:
        return 2
    return 1 if other == score else 0


def wins_among(score, scores):
    """The half wins of one of the scores against the others."""
    # It stands among the scores itself, and is like itself.
    return sum([won(score, other) for other in scores]) - 1


def points_among(score, scores, many):
    """The first pair's points for one of the scores."""
    n = len(scores)
    return lowest((wins_among(score, scores) + 1) * many - n, n)


def half_wins(scores):
    """The half wins of each score."""
    return [wins_among(score, scores) for score in scores]


def points(scores, many):
    """The first pairs' points for each score, at so many tables."""
    return [points_among(score, scores, many) for score in scores]


def ruled(tenths, many):
    """So many tenths of the top."""
    return lowest(tenths * top_of(many), TENTHS)

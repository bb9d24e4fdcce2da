"""Fractions: tuples (over, under) in lowest terms, under above 0."""


def common(one, other):
    """The greatest common divisor of two numbers, not below 0."""
    one, other = abs(one), abs(other)
    while other != 0:
        one, other = other, one % other
    return one


def lowest(over, under):
    """The fraction of two numbers, the second one not 0."""
    shared = common(over, under)
    if under < 0:
        shared = -shared
    return (over // shared, under // shared)


def plus(one, other):
    """The sum of two fractions."""
    return lowest(one[0] * other[1] + other[0] * one[1], one[1] * other[1])


def less(one, other):
    """The first fraction less the second one."""
    return lowest(one[0] * other[1] - other[0] * one[1], one[1] * other[1])


def greater(one, other):
    """True where the first fraction is greater, else False."""
    return one[0] * other[1] > other[0] * one[1]

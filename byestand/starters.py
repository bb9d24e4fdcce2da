"""Rings of an odd count, with their starters and adders."""

from byestand.errors import BadRing, NoStarter

LEAST_RING = 3
GREATEST_RING = 11


def need_ring(m):
    """Refuses a number that is no ring."""
    if m < LEAST_RING or m > GREATEST_RING or m % 2 == 0:
        raise BadRing()


def all_unlike(numbers):
    """True where no two of the numbers are alike."""
    return len(set(numbers)) == len(numbers)


def differ(m, pairs):
    """True where of all differences within the pairs, taken both ways, no two are alike."""
    ways = [(x - y) % m for x, y in pairs] + [(y - x) % m for x, y in pairs]
    return all_unlike(ways)


def is_starter(m, pairs):
    """True where a list of pairs of numbers is a starter of the ring."""
    need_ring(m)
    numbers = [number for pair in pairs for number in pair]
    if sorted(numbers) != list(range(1, m)):
        return False
    if any([x > y for x, y in pairs]) or pairs != sorted(pairs):
        return False
    return differ(m, pairs)


def pairings(numbers):
    """All ways to put rising numbers into rising pairs, as lists rise."""
    if not numbers:
        return [[]]
    found = []
    for partner in numbers[1:]:
        others = [number for number in numbers[1:] if number != partner]
        for rest in pairings(others):
            found.append([(numbers[0], partner)] + rest)
    return found


def starters(m):
    """All starters of the ring, rising."""
    need_ring(m)
    return [pairs for pairs in pairings(list(range(1, m))) if differ(m, pairs)]


def fits(m, pairs, adds):
    """True where numbers for the first pairs, or for all of them, may stand together in an adder."""
    places = [(b - number) % m for pair, b in zip(pairs, adds) for number in pair]
    return all_unlike(adds) and all_unlike(places) and 0 not in places


def is_adder(m, pairs, adds):
    """True where a list of numbers is an adder of a starter."""
    need_ring(m)
    if len(adds) != len(pairs) or any([b < 1 or b >= m for b in adds]):
        return False
    return fits(m, pairs, adds)


def first_from(m, pairs, adds):
    """The first adder that begins with adds, or None."""
    if len(adds) == len(pairs):
        return adds
    for b in range(1, m):
        longer = adds + [b]
        if fits(m, pairs, longer):
            found = first_from(m, pairs, longer)
            if found is not None:
                return found
    return None


def first_adder(m, pairs):
    """The first adder of a starter, as lists rise, or None where it has none."""
    need_ring(m)
    return first_from(m, pairs, [])


def planned(m):
    """The first starter of the ring that has an adder, with its first adder."""
    for pairs in starters(m):
        adds = first_adder(m, pairs)
        if adds is not None:
            return (pairs, adds)
    raise NoStarter()

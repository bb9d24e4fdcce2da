"""Plans looked over: what is wrong with rows, told in order."""


def couple(first, second):
    """The two of a table, alike in whatever order they sit."""
    return (min(first, second), max(first, second))


def sitting(at, table, cell, lower):
    """Those at a table who sit elsewhere in the round, too, or on both sides here."""
    first, second = cell[:2]
    seated = [pair for other in lower for pair in other[:2]]
    found = []
    if first in seated:
        found.append(("sits", at, table, first))
    if second in seated or second == first:
        found.append(("sits", at, table, second))
    return found


def sharing(at, table, cell, lower):
    """The set at a table, where a lower table of the round has it."""
    number = cell[2]
    if number in [other[2] for other in lower]:
        return [("shares", at, table, number)]
    return []


def having_again(at, table, cell, had):
    """Those at a table who had its set ahead."""
    first, second, number = cell
    pairs = [first] if first == second else [first, second]
    return [("again", at, table, pair) for pair in pairs if (pair, number) in had]


def meeting_again(at, table, cell, met):
    """The two at a table, where they met ahead."""
    if couple(cell[0], cell[1]) in met:
        return [("met", at, table)]
    return []


def faults(rows):
    """All faults of rows, by rising rounds and tables."""
    had = {}
    met = {}
    found = []
    for at, cells in enumerate(rows):
        for table, cell in enumerate(cells):
            lower = cells[:table]
            found += sitting(at, table, cell, lower) + sharing(at, table, cell, lower)
            found += having_again(at, table, cell, had) + meeting_again(at, table, cell, met)
            first, second, number = cell
            had[(first, number)] = True
            had[(second, number)] = True
            met[couple(first, second)] = True
    return found

"""All plans, with their rows found by moving pairs and sets from table to table.

Nothing here reckons as the program does: second pairs and sets stand in lists that are shifted between
rounds, and the rings' starters and adders are written out.
"""

from byestand.plans import Plan

SIXTY = 10 ** 60 - 1
FAR = (-SIXTY, -(10 ** 30), -100, 100, 10 ** 30, 10 ** 59, SIXTY)

TABLES_OF = {"straight": (3, 5, 7, 9), "skip": (4, 6, 8), "shared": (4, 6, 8), "ring": (4, 5, 6)}
EACH = [(kind, tables) for kind, many in TABLES_OF.items() for tables in many]

RINGS = {
    4: [(1, 3, 2), (2, 6, 4), (4, 5, 1)],
    5: [(1, 2, 5), (3, 7, 4), (4, 6, 2), (5, 8, 7)],
    6: [(1, 2, 3), (3, 6, 9), (4, 8, 1), (5, 10, 4), (7, 9, 5)],
}


def up(things):
    """What lay at each table goes to the next higher one, from the highest to the lowest."""
    return things[-1:] + things[:-1]


def down(things):
    return things[1:] + things[:1]


def with_one_aside(sets):
    """The sets at the tables, where one rests in the middle and the last table looks on with the first."""
    half = len(sets) // 2
    return sets[:half] + sets[half + 1:] + sets[:1]


def two_field_rows(kind, t):
    pairs, sets = list(range(t, 2 * t)), list(range(t))
    rows = []
    for at in range(t - 1 if kind == "skip" else t):
        if kind == "skip" and at == t // 2:
            pairs = up(pairs)
        laid = with_one_aside(sets) if kind == "shared" else sets
        rows.append(list(zip(range(t), pairs, laid)))
        pairs, sets = up(pairs), down(sets)
    return rows


def next_in(ring, number):
    return 0 if number == ring - 1 else number + 1


def ring_rows(tables):
    ring = 2 * tables - 1
    cells = [(ring, 0, 0)] + RINGS[tables]
    rows = []
    for _ in range(ring):
        rows.append(list(cells))
        moved = [tuple(next_in(ring, number) for number in cell) for cell in cells]
        cells = [(ring,) + tuple(next_in(ring, number) for number in cells[0][1:])] + moved[1:]
    return rows


def rows_of(kind, tables):
    return ring_rows(tables) if kind == "ring" else two_field_rows(kind, tables)


def each_plan():
    """Each plan, made anew, with its rows."""
    return [(Plan(kind, tables), rows_of(kind, tables)) for kind, tables in EACH]


def beside(many):
    """Numbers that are none of those from 0 to many - 1: the nearest ones and far ones."""
    return (-many, -2, -1, many, many + 1, 2 * many) + FAR

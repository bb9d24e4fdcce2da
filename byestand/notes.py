"""Notes: deeds and evenings written as texts, and read back."""

from byestand.errors import BadText, StandError
from byestand.evening import FIGURES, Evening
from byestand.plans import Plan

MOST_FIGURES = 60

# What is handed to each deed, by the word that it is written with.
FORMS = {
    "come": ("number", "name"),
    "leave": ("number",),
    "call": (),
    "enter": ("number", "number", "number", "number"),
    "rule": ("number", "number", "number", "number", "number"),
    "amend": ("number", "number"),
    "ruling": ("number", "number", "number"),
    "strike": ("number",),
}
HEAD = ("name", "number", "number")


def number_in(text):
    """The number that a text writes, or None where it writes none."""
    figures = text[1:] if text.startswith("-") else text
    if figures == "" or len(figures) > MOST_FIGURES or not all([sign in FIGURES for sign in figures]):
        return None
    # Needless noughts, and a nought below nought, are written back in another way.
    return int(text) if str(int(text)) == text else None


def read_parts(forms, parts):
    """What parts of a row write, as a list, or None where they are not of these forms."""
    if len(parts) != len(forms):
        return None
    found = [part if form == "name" else number_in(part) for form, part in zip(forms, parts)]
    return None if None in found else found


def read_deed(row):
    """The deed that a row writes, or None where it writes none."""
    word, *parts = row.split(" ")
    if word not in FORMS:
        return None
    found = read_parts(FORMS[word], parts)
    return None if found is None else (word,) + tuple(found)


def do_come(evening, deed):
    return evening.come(deed[1], deed[2])


def do_leave(evening, deed):
    return evening.leave(deed[1])


def do_call(evening, deed):
    return evening.call()


def do_enter(evening, deed):
    return evening.enter(deed[1], deed[2], deed[3], deed[4])


def do_rule(evening, deed):
    return evening.rule(deed[1], deed[2], deed[3], deed[4], deed[5])


def do_amend(evening, deed):
    return evening.amend(deed[1], deed[2])


def do_ruling(evening, deed):
    return evening.amend_ruling(deed[1], deed[2], deed[3])


def do_strike(evening, deed):
    return evening.strike(deed[1])


DOERS = {
    "come": do_come,
    "leave": do_leave,
    "call": do_call,
    "enter": do_enter,
    "rule": do_rule,
    "amend": do_amend,
    "ruling": do_ruling,
    "strike": do_strike,
}


def do_deed(evening, deed):
    """Does a deed; what it tells."""
    doer = DOERS[deed[0]]
    return doer(evening, deed)


def deed_text(deed):
    """The row of a deed, without its line feed."""
    return " ".join([str(part) for part in deed])


def written(evening):
    """The text of an evening."""
    head = f"evening {evening.plan.kind} {evening.plan.tables} {evening.packets}"
    rows = [head] + [deed_text(deed) for deed in evening.deeds()]
    return "".join([row + "\n" for row in rows])


def read_head(row):
    """The evening, without any deed, whose first row this is."""
    word, *parts = row.split(" ")
    found = read_parts(HEAD, parts)
    if word != "evening" or found is None:
        raise BadText(0)
    kind, tables, packets = found
    try:
        return Evening(Plan(kind, tables), packets)
    except StandError:
        raise BadText(0) from None


def do_row(evening, at, row):
    """Does the deed of the row of a number."""
    deed = read_deed(row)
    if deed is None:
        raise BadText(at)
    try:
        do_deed(evening, deed)
    except StandError:
        raise BadText(at) from None


def read_back(text):
    """The evening that is written as this text."""
    *rows, rest = text.split("\n")
    if not rows:
        raise BadText(0)
    evening = read_head(rows[0])
    for at, row in enumerate(rows[1:], start=1):
        do_row(evening, at, row)
    if rest != "":
        raise BadText(len(rows))
    return evening

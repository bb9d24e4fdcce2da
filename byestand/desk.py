"""The desk: an evening that is told lines and answers them."""

from byestand.ends import lead, sure
from byestand.errors import StandError
from byestand.evening import Evening
from byestand.guides import where
from byestand.notes import deed_text, do_deed, read_deed, read_parts
from byestand.sums import places, total

FORMS = {
    "undo": (),
    "redo": (),
    "total": ("number",),
    "place": ("number",),
    "lead": ("number", "number"),
    "sure": ("number",),
    "seat": ("number", "number"),
    "open": (),
}


def shown(fraction):
    """A fraction with both of its numbers."""
    return f"{fraction[0]}/{fraction[1]}"


def say_undo(evening, numbers):
    return deed_text(evening.undo())


def say_redo(evening, numbers):
    return deed_text(evening.redo())


def say_total(evening, numbers):
    return shown(total(evening, numbers[0]))


def say_place(evening, numbers):
    field = evening.plan.field(numbers[0])
    return str([place for place, pair in places(evening, field) if pair == numbers[0]][0])


def say_lead(evening, numbers):
    return shown(lead(evening, numbers[0], numbers[1])[0])


def say_sure(evening, numbers):
    return "yes" if sure(evening, numbers[0]) else "no"


def say_seat(evening, numbers):
    table, side = where(evening.plan, numbers[0], numbers[1])
    return f"{table} {side}"


def say_gaps(evening, numbers):
    return str(len(evening.gaps()))


SAYERS = {
    "undo": say_undo,
    "redo": say_redo,
    "total": say_total,
    "place": say_place,
    "lead": say_lead,
    "sure": say_sure,
    "seat": say_seat,
    "open": say_gaps,
}


def done(evening, deed):
    """The answer to a deed that is done."""
    told = do_deed(evening, deed)
    return f"slip {told}" if deed[0] in ("enter", "rule") else "done"


def answer(evening, line):
    """The answer to a line, where nothing is refused."""
    deed = read_deed(line)
    if deed is not None:
        return done(evening, deed)
    word, *parts = line.split(" ")
    numbers = read_parts(FORMS[word], parts) if word in FORMS else None
    if numbers is None:
        return "no: bad line"
    sayer = SAYERS[word]
    return sayer(evening, numbers)


class Desk:
    """A desk over an evening of its own."""

    def __init__(self, plan, packets):
        self.evening = Evening(plan, packets)

    def say(self, line):
        """The answer to a line."""
        try:
            return answer(self.evening, line)
        except StandError as refusal:
            return f"no: {refusal.word}"

"""The refusals of byestand.errors: their words and what they stand under."""

import inspect
import unittest

from byestand import errors
from byestand.errors import BadText, StandError
from byestand.evening import Evening
from byestand.guides import goes
from byestand.meets import beside, evenest
from byestand.notes import read_back
from byestand.plans import Plan
from byestand.starters import planned
from byestand.sums import points_of

WORDS = {
    "BadRing": "bad ring",
    "NoStarter": "no starter",
    "BadPlan": "bad plan",
    "NoRound": "no round",
    "NoTable": "no table",
    "NoPair": "no pair",
    "NoSet": "no set",
    "BadSide": "bad side",
    "Twice": "told twice",
    "TooMany": "too many",
    "BadScore": "bad score",
    "BadName": "bad name",
    "Seated": "seated",
    "Taken": "taken",
    "Away": "away",
    "NotCalled": "not called",
    "NoPacket": "no packet",
    "Out": "out",
    "Scored": "scored",
    "NoSlip": "no slip",
    "Struck": "struck",
    "NothingLeft": "nothing left",
    "BadText": "bad text",
}


def part_way():
    """An evening in which each deed's refusals can be called for."""
    evening = Evening(Plan("straight", 3), 1)
    for pair in range(5):
        evening.come(pair, f"p{pair}")
    evening.call()
    evening.enter(0, 0, 0, 5)
    evening.enter(0, 1, 0, 5)
    evening.strike(1)
    return evening


# One call for each refusal.
CALLS = {
    "BadRing": lambda: planned(4),
    "NoStarter": lambda: planned(5),
    "BadPlan": lambda: Plan("straight", 4),
    "NoRound": lambda: Plan("straight", 3).seat(3, 0),
    "NoTable": lambda: Plan("straight", 3).seat(0, 3),
    "NoPair": lambda: part_way().come(6, "ann"),
    "NoSet": lambda: points_of(part_way(), 3, 0),
    "BadSide": lambda: goes(Plan("straight", 3), 0, (0, "third")),
    "Twice": lambda: beside(Plan("straight", 3), [], 0, 0),
    "TooMany": lambda: evenest(Plan("straight", 9)),
    "BadScore": lambda: part_way().amend(0, 10000),
    "BadName": lambda: part_way().come(5, "Ann"),
    "Seated": lambda: part_way().come(0, "ann"),
    "Taken": lambda: part_way().come(5, "p0"),
    "Away": lambda: part_way().leave(5),
    "NotCalled": lambda: part_way().enter(1, 0, 0, 5),
    "NoPacket": lambda: part_way().enter(0, 0, 1, 5),
    "Out": lambda: part_way().enter(0, 2, 0, 5),
    "Scored": lambda: part_way().enter(0, 0, 0, 5),
    "NoSlip": lambda: part_way().amend(2, 5),
    "Struck": lambda: part_way().amend(1, 5),
    "NothingLeft": lambda: part_way().redo(),
    "BadText": lambda: read_back("evening straight 3 1\ncome 0 ann\ncome 1 ann\n"),
}


def made(name):
    kind = getattr(errors, name)
    return kind(0) if name == "BadText" else kind()


class Refusals(unittest.TestCase):
    def test_all_are_there_and_no_other(self):
        self.assertEqual(len(WORDS), 23)
        classes = [name for name, thing in vars(errors).items() if inspect.isclass(thing)]
        self.assertEqual(sorted(classes), sorted(list(WORDS) + ["StandError"]))

    def test_each_stands_straight_under_stand_error(self):
        self.assertEqual(StandError.__bases__, (ValueError,))
        for name in WORDS:
            with self.subTest(name):
                self.assertEqual(getattr(errors, name).__bases__, (StandError,))

    def test_each_has_its_word(self):
        for name, word in WORDS.items():
            with self.subTest(name):
                self.assertEqual(made(name).word, word)

    def test_the_word_is_an_objects_own_value(self):
        for name in WORDS:
            with self.subTest(name):
                self.assertIn("word", vars(made(name)))

    def test_each_is_taken_as_stand_error_and_by_its_own_name_alone(self):
        for name in WORDS:
            for other in WORDS:
                with self.subTest(name=name, other=other):
                    self.assertEqual(isinstance(made(name), getattr(errors, other)), name == other)
            with self.subTest(name), self.assertRaises(StandError) as caught:
                raise made(name)
            self.assertEqual(caught.exception.word, WORDS[name])

    def test_bad_text_has_its_row(self):
        for row in (0, 1, 17):
            error = BadText(row)
            self.assertEqual((error.word, error.row), ("bad text", row))

    def test_each_is_called_for_once(self):
        self.assertEqual(sorted(CALLS), sorted(WORDS))
        for name, ask in CALLS.items():
            with self.subTest(name), self.assertRaises(StandError) as caught:
                ask()
            error = caught.exception
            self.assertIs(type(error), getattr(errors, name))
            self.assertIsInstance(error, ValueError)
            self.assertEqual([other for other in WORDS if isinstance(error, getattr(errors, other))], [name])
            self.assertEqual(error.word, WORDS[name])
            self.assertEqual(vars(error).get("row"), 2 if name == "BadText" else None)


if __name__ == "__main__":
    unittest.main()

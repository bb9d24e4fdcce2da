"""The refusals of byestand.errors: their words and what they stand under."""

import inspect
import unittest

from byestand import errors
from byestand.errors import BadText, StandError

WORDS = {
    "BadRing": "bad ring",
    "NoStarter": "no starter",
    "BadPlan": "bad plan",
    "NoRound": "no round",
    "NoTable": "no table",
    "NoPair": "no pair",
    "NoSet": "no set",
    "BadSide": "bad side",
    "Twice": "told twice",
    "TooMany": "too many",
    "BadScore": "bad score",
    "BadName": "bad name",
    "Seated": "seated",
    "Taken": "taken",
    "Away": "away",
    "NotCalled": "not called",
    "NoPacket": "no packet",
    "Out": "out",
    "Scored": "scored",
    "NoSlip": "no slip",
    "Struck": "struck",
    "NothingLeft": "nothing left",
    "BadText": "bad text",
}


def made(name):
    kind = getattr(errors, name)
    return kind(0) if name == "BadText" else kind()


class Refusals(unittest.TestCase):
    def test_all_are_there_and_no_other(self):
        self.assertEqual(len(WORDS), 23)
        classes = [name for name, thing in vars(errors).items() if inspect.isclass(thing)]
        self.assertEqual(sorted(classes), sorted(list(WORDS) + ["StandError"]))

    def test_each_stands_straight_under_stand_error(self):
        self.assertEqual(StandError.__bases__, (ValueError,))
        for name in WORDS:
            with self.subTest(name):
                self.assertEqual(getattr(errors, name).__bases__, (StandError,))

    def test_each_has_its_word(self):
        for name, word in WORDS.items():
            with self.subTest(name):
                self.assertEqual(made(name).word, word)

    def test_the_word_is_an_objects_own_value(self):
        for name in WORDS:
            with self.subTest(name):
                self.assertIn("word", vars(made(name)))

    def test_each_is_taken_as_stand_error_and_by_its_own_name_alone(self):
        for name in WORDS:
            for other in WORDS:
                with self.subTest(name=name, other=other):
                    self.assertEqual(isinstance(made(name), getattr(errors, other)), name == other)
            with self.subTest(name), self.assertRaises(StandError) as caught:
                raise made(name)
            self.assertEqual(caught.exception.word, WORDS[name])

    def test_bad_text_has_its_row(self):
        for row in (0, 1, 17):
            error = BadText(row)
            self.assertEqual((error.word, error.row), ("bad text", row))


if __name__ == "__main__":
    unittest.main()

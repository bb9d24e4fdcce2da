"""Deeds and evenings written, and texts read, held against a reader made of Python's own patterns and the model."""

import random
import re
import unittest

from byestand.errors import BadText, StandError
from byestand.evening import Evening
from byestand.notes import deed_text, read_back, written
from byestand.plans import Plan

from model import ALL_WORDS, NUMBER, Model, answers_of, both, deed_in, drawn_evening
from moves import EACH, SIXTY

START = "evening straight 3 2\n" + "".join(f"come {pair} p{pair}\n" for pair in range(5)) + "call\nenter 0 0 0 5\n"
SIGNS = " \n-+0179aZcz./~"


def model_of(row):
    """The model of a head, or None."""
    found = re.fullmatch(f"evening ([^ ]*) {NUMBER} {NUMBER}", row)
    if not found:
        return None
    kind, tables, packets = found[1], int(found[2]), int(found[3])
    return Model(kind, tables, packets) if (kind, tables) in EACH and 1 <= packets <= 3 else None


def first_wrong(text):
    """The number of the first wrong row of a text, or None where it is good."""
    rows = re.findall(r"([^\n]*)\n", text)
    model = model_of(rows[0]) if rows else None
    if model is None:
        return 0
    for at, row in enumerate(rows[1:], 1):
        deed = deed_in(row)
        if deed is None or model.do(deed)[0] == "refused":
            return at
    return None if text.endswith("\n") else len(rows)


def long_texts():
    """The texts of long evenings, some deeds of which are taken back."""
    found = []
    for seed, (kind, tables) in enumerate(EACH):
        evening, model = drawn_evening(kind, tables, seed % 3 + 1, 900 + seed, 60)
        for _ in range(seed % 4):
            evening.undo()
        found.append((evening, written(evening)))
    return found


LONG = long_texts()


class Holding(unittest.TestCase):
    def hold(self, text):
        """A text is read, or refused, as the patterns and the model tell."""
        wrong = first_wrong(text)
        if wrong is None:
            evening = read_back(text)
            self.assertEqual(written(evening), text)
            self.assertEqual(evening.undone(), [])
            return None
        with self.assertRaises(BadText, msg=text) as caught:
            read_back(text)
        self.assertEqual(caught.exception.row, wrong, text)
        self.assertEqual(caught.exception.word, "bad text")
        return wrong


class DeedTexts(unittest.TestCase):
    def test_as_the_document_writes_them(self):
        for deed, row in (
            (("come", 3, "ann"), "come 3 ann"), (("call",), "call"), (("enter", 0, 2, 1, -420), "enter 0 2 1 -420"),
            (("rule", 0, 2, 1, 6, 4), "rule 0 2 1 6 4"), (("amend", 5, 620), "amend 5 620"),
            (("ruling", 5, 3, 7), "ruling 5 3 7"), (("strike", 5), "strike 5"), (("leave", 3), "leave 3"),
        ):
            self.assertEqual(deed_text(deed), row)

    def test_numbers_of_any_sign(self):
        chance = random.Random(1)
        numbers = [0, 1, -1, 9, 10, -10, 100, 9999, -9999, SIXTY, -SIXTY, 10 ** 59, -(10 ** 59)]
        numbers += [chance.randrange(-(10 ** figures), 10 ** figures) for figures in range(1, 61)]
        many = {"leave": 1, "call": 0, "enter": 4, "rule": 5, "amend": 2, "ruling": 3, "strike": 1}
        for _ in range(300):
            for word, count in many.items():
                deed = (word,) + tuple(chance.choice(numbers) for _ in range(count))
                row = deed_text(deed)
                self.assertEqual(row, " ".join([word] + [f"{number:d}" for number in deed[1:]]))
                self.assertEqual(deed_in(row), deed)
            deed = ("come", chance.choice(numbers), chance.choice(["a", "abcdefgh", "z9"]))
            self.assertEqual(deed_in(deed_text(deed)), deed)

    def test_evenings(self):
        evening, _ = both("ring", 4, 2, [("come", 7, "ann"), ("come", 0, "bob"), ("call",), ("enter", 0, 0, 1, -420)])
        self.assertEqual(written(Evening(Plan("skip", 6), 3)), "evening skip 6 3\n")
        self.assertEqual(written(evening), "evening ring 4 2\ncome 7 ann\ncome 0 bob\ncall\nenter 0 0 1 -420\n")
        evening.undo()
        self.assertEqual(written(evening), "evening ring 4 2\ncome 7 ann\ncome 0 bob\ncall\n")
        evening.redo()
        evening.amend_ruling(0, 10, 0)
        self.assertEqual(written(evening).split("\n")[-2], "ruling 0 10 0")

    def test_writing_changes_nothing(self):
        for evening, text in LONG:
            kept = answers_of(evening)
            for _ in range(2):
                self.assertEqual(written(evening), text)
                self.assertEqual(answers_of(evening), kept)


class ReadBack(Holding):
    def test_long_evenings(self):
        words = set()
        for evening, text in LONG:
            told = read_back(text)
            self.assertIs(type(told), Evening)
            self.assertEqual(answers_of(told), {**answers_of(evening), "undone": []})
            self.assertEqual((told.plan.kind, told.plan.tables), (evening.plan.kind, evening.plan.tables))
            self.assertEqual(told.plan.rows(), evening.plan.rows())
            self.assertEqual(told.packets, evening.packets)
            self.assertEqual(written(told), text)
            self.assertIsNone(self.hold(text))
            words |= {deed[0] for deed in told.deeds()}
        self.assertEqual(words, set(ALL_WORDS))
        self.assertTrue(any(evening.undone() for evening, _ in LONG))

    def test_what_is_read_can_be_taken_back_and_goes_its_own_way(self):
        for evening, text in LONG[:5]:
            one, other = read_back(text), read_back(text)
            deeds = one.deeds()
            self.assertEqual([one.undo() for _ in deeds], deeds[::-1])
            self.assertEqual(one.there(), [])
            self.assertEqual(written(other), text)

    def test_heads_without_deeds(self):
        for kind, tables in EACH:
            for packets in (1, 2, 3):
                text = f"evening {kind} {tables} {packets}\n"
                evening = read_back(text)
                self.assertEqual((evening.plan.kind, evening.plan.tables, evening.packets), (kind, tables, packets))
                self.assertEqual(evening.deeds(), [])

    def test_wrong_heads(self):
        rows = [
            "", " ", "evening", "evening ", "evening straight", "evening straight 3", "evening straight 3 ",
            "evening straight 3 0", "evening straight 3 4", "evening straight 3 -1", "evening straight 4 1",
            "evening straight 1 1", "evening straight -3 1", "evening straight 11 1", "evening skip 3 1", "evening skip 2 1",
            "evening shared 10 1", "evening ring 2 1", "evening ring 3 1", "evening ring 7 1", "evening ring 1 1",
            "evening Straight 3 1", "evening  3 1", "evening straight  3 1", " evening straight 3 1",
            "evening straight 3 1 ", "evening straight 3 1 1", "evening straight 03 1", "evening straight +3 1",
            "evening straight 3 01", "evening straight 3 1.", "Evening straight 3 1", "straight 3 1", "call",
            "come 0 ann", "evening straight three 1", "evening 3 straight 1", "evening straight -0 1",
            "evening other 3 1", f"evening straight {SIXTY} 1", f"evening straight {SIXTY}0 1", f"evening ring 4 {SIXTY}",
        ]
        for row in rows:
            for text in (row + "\n", row + "\ncome 0 ann\n", row, row + "\nnonsense\n", "\n" + row + "\n"):
                with self.subTest(text):
                    self.assertEqual(self.hold(text), 0)

    def test_the_text_without_signs_and_rows_without_end(self):
        good = "evening straight 3 1"
        for text, row in (
            ("", 0), ("\n", 0), ("\n\n", 0), (good, 0), (good + "\n\n", 1), (good + "\ncall", 1), (good + "\n ", 1),
            (good + "\ncall\ncall", 2), (good + "\ncall\n\n", 2), (good + "\ncall\n\ncall\n", 2), ("x", 0),
            (good + "\nx\ncall", 1), (good + "\ncome 0 ann\ncall\nx", 3), (" ", 0), (good + " ", 0),
        ):
            with self.subTest(text):
                self.assertEqual(self.hold(text), row)

    def test_the_last_line_feed_gone(self):
        for evening, text in LONG:
            self.assertEqual(self.hold(text[:-1]), text.count("\n") - 1)

    def test_rows_nearly_of_a_form(self):
        at = START.count("\n")
        for row in (
            "", " ", "come", "come 5", "come 5 ", "come 5  ann", "come 5 ann ", " come 5 ann", "come  5 ann", "come 05 ann",
            "come +5 ann", "come 5 Ann", "come 5 abcdefghi", "come -0 ann", "come ann 5", "come 5 p0", "come 0 ann",
            "come 6 ann", "come -1 ann", "come 5.0 ann", "Come 5 ann", "leave", "leave 5", "leave 0 ", "leave 00", "leave -0",
            "leave 0 0", "call ", " call", "call 1", "calls", "CALL", "enter 0 0 1", "enter 0 0 1 5 ", "enter 0 0 1 05",
            "enter 0 0 1 -0", "enter 0 0 1 +1", "enter 0 0 1 10000", "enter 0 0 1 -10000", "enter 0 0 1 --1",
            "enter 0 0 1 - 1", "enter 0 0 1 1-", "enter 0 0 1 -", "enter 0 0 1 1_0", "enter 0 0 1 0x1", "enter 0 0 1 1e3",
            "enter 0 0 0 5", "enter 1 0 0 5", "enter 0 2 0 5", "enter 0 3 0 5", "enter 0 0 2 5", "rule 0 0 1 5",
            "rule 0 0 1 5 11", "rule 0 0 1 -1 5", "rule 0 0 1 5 5 5", "amend 0", "amend 1 5", "amend 0 5 5", "amend 0 10000",
            "amend_ruling 0 5 5", "ruling 0 5", "ruling 0 5 11", "ruling 1 5 5", "strike", "strike 1", "strike -1",
            "strike 0 0", "strike 00", "undo", "redo", "evening straight 3 2", "total 0", "open", "amend 0\t5",
        ):
            with self.subTest(row):
                self.assertEqual(self.hold(START + row + "\n"), at)
                self.assertEqual(self.hold(START + row + "\nnonsense\n"), at)

    def test_good_rows_behind_that_start(self):
        for row in ("come 5 a", "come 5 abcdefgh", "leave 0", "call", "enter 0 0 1 -9999", "enter 0 1 0 9999", "enter 0 1 1 0",
                    "rule 0 0 1 0 10", "amend 0 0", "amend 0 -1", "ruling 0 10 10", "strike 0"):
            with self.subTest(row):
                self.assertIsNone(self.hold(START + row + "\n"))

    def test_numbers_of_sixty_and_sixty_one_figures(self):
        """Either is wrong in an evening; that the shorter one is read as a number is seen at the desk."""
        start = "evening ring 4 1\ncome 0 ann\n"
        for number in ("9" * 60, "9" * 61, "-" + "9" * 60, "-" + "9" * 61, "0" * 60 + "1", "1" + "0" * 60, "0" * 61):
            for row in (f"come {number} bob", f"leave {number}", f"amend {number} 0", f"enter {number} 0 0 0"):
                self.assertEqual(self.hold(start + row + "\n"), 2)


class Bent(Holding):
    def bent_by_a_sign(self, text, chance):
        at = chance.randrange(len(text) + 1)
        sign = chance.choice(SIGNS)
        return chance.choice([
            text[:at] + sign + text[at:], text[:at] + text[at + 1:], text[:at] + sign + text[at + 1:],
            text[:at] + " " + text[at:], text[:at] + "\n" + text[at:],
        ])

    def bent_by_a_row(self, text, chance):
        rows = text.split("\n")[:-1]
        at, to = chance.randrange(len(rows)), chance.randrange(len(rows))
        left = rows[:at] + rows[at + 1:]
        choices = [left, rows[:at] + [rows[at]] + rows[at:], left[:to] + [rows[at]] + left[to:], rows[:at] + [""] + rows[at:],
                   rows + [rows[at]], rows[:at] + ["call"] + rows[at:]]
        return "".join(row + "\n" for row in chance.choice(choices))

    def test_by_one_sign(self):
        chance = random.Random(21)
        outcomes = []
        for evening, text in LONG:
            for _ in range(90):
                outcomes.append(self.hold(self.bent_by_a_sign(text, chance)))
        self.assertIn(None, outcomes)
        self.assertGreater(len(set(outcomes)), 20)

    def test_by_one_row(self):
        chance = random.Random(22)
        outcomes = []
        for evening, text in LONG:
            for _ in range(50):
                outcomes.append(self.hold(self.bent_by_a_row(text, chance)))
        self.assertIn(None, outcomes)
        self.assertGreater(len(set(outcomes)), 20)

    def test_every_place_of_a_short_text(self):
        text = "evening straight 3 1\ncome 0 a\ncome 3 b\ncall\nenter 0 0 0 -5\namend 0 10\nleave 3\n"
        for at in range(len(text) + 1):
            self.hold(text[:at])
            self.hold(text[:at] + text[at + 1:])
            for sign in SIGNS:
                self.hold(text[:at] + sign + text[at:])
                self.hold(text[:at] + sign + text[at + 1:])

    def test_a_refused_text_leaves_the_next_one_alone(self):
        text = "evening straight 3 1\ncome 0 a\n"
        for _ in range(3):
            self.assertRaises(StandError, read_back, text + "come 1 a\n")
            self.assertEqual(read_back(text).there(), [(0, "a")])


class Twins(unittest.TestCase):
    def test_a_twin_is_written_alike(self):
        for evening, text in LONG:
            twin = evening.twin()
            self.assertEqual(written(twin), text)
            if twin.undone():
                twin.redo()
                self.assertNotEqual(written(twin), text)
            self.assertEqual(written(evening), text)


if __name__ == "__main__":
    unittest.main()

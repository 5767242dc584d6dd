"""halltexts.py: point [6]."""

import itertools
import random
import re
import unittest

import samples
from looktrails.errors import BadRow, BadText
from looktrails.halls import beside, is_hall, is_history
from looktrails.halltexts import hall_in, hall_text, history_in, history_text

NUMBER = "(0|[1-9][0-9]*)"
NUMBERS = re.compile(f"{NUMBER}( {NUMBER})*")


def plain_persons(text):
    """The numbers of a text of persons, None where it isn't so written."""
    if text == "-":
        return []
    if NUMBERS.fullmatch(text) is None:
        return None
    return [int(word) for word in text.split(" ")]


def rises(numbers):
    return sorted(set(numbers)) == numbers


def plain_bad_row(text):
    """The row that BadRow has to bear, None where the text is a hall's."""
    rows = text.split("\n")
    named = []
    for number, row in enumerate(rows):
        person, middle, tail = row.partition(" sees ")
        seen = plain_persons(tail) if middle else None
        if seen is None or person != str(number) or number > 7:
            return number
        if not rises(seen) or (seen and seen[-1] > 7):
            return number
        named.append(seen)
    for number, seen in enumerate(named):
        if seen and seen[-1] >= len(rows):
            return number
    return None


def plain_bad_beat(hall, text):
    """The beat that BadText has to bear, None where the text is a history's."""
    if text == "":
        return None
    for number, part in enumerate(text.split(" / ")):
        beat = plain_persons(part)
        if beat is None or not rises(beat) or (beat and beat[-1] >= len(hall)):
            return number
    return None


def changed_texts(text, signs, source, count):
    """Texts that come of that one by one to three signs struck, put in or put for another."""
    for number in range(count):
        changed = text
        for step in range(source.randint(1, 3)):
            place = source.randint(0, len(changed))
            wide = source.randint(0, 1)
            put = source.choice(signs + [""])
            changed = changed[:place] + put + changed[place + wide :]
        yield changed


class HallText(unittest.TestCase):
    def test_told_ones(self):
        self.assertEqual(hall_text(samples.NOBODY), "0 sees -")
        self.assertEqual(hall_text(samples.ITSELF), "0 sees 0")
        self.assertEqual(hall_text(samples.LINE), "0 sees -\n1 sees 0\n2 sees 1")
        self.assertEqual(hall_text(hall=((0, 1), ())), "0 sees 0 1\n1 sees -")

    def test_with_lists(self):
        hall = [[], [0, 1]]
        self.assertEqual(hall_text(hall), "0 sees -\n1 sees 0 1")
        self.assertEqual(hall, [[], [0, 1]])

    def test_of_more_than_eight(self):
        rows = hall_text(beside(samples.WIDE, samples.WIDE)).split("\n")
        self.assertEqual(len(rows), 16)
        self.assertEqual(rows[11], "11 sees 10 14")


class HistoryText(unittest.TestCase):
    def test_told_ones(self):
        self.assertEqual(history_text([]), "")
        self.assertEqual(history_text([()]), "-")
        self.assertEqual(history_text([(), ()]), "- / -")
        self.assertEqual(history_text([(0, 2), (), (1,)]), "0 2 / - / 1")
        self.assertEqual(history_text(history=[(10, 11)]), "10 11")

    def test_with_lists_and_tuples(self):
        history = [[0, 2], [], [1]]
        self.assertEqual(history_text(history), "0 2 / - / 1")
        self.assertEqual(history, [[0, 2], [], [1]])
        self.assertEqual(history_text(((0, 2), [])), "0 2 / -")
        self.assertEqual(history_text(()), "")


class HallIn(unittest.TestCase):
    def bad_row(self, text):
        try:
            told = hall_in(text)
        except BadRow as error:
            return error.row
        self.assertIs(is_hall(told), True)
        self.assertEqual(hall_text(told), text)
        return None

    def test_reads_what_was_written(self):
        for hall in samples.small_halls() + samples.some_halls():
            told = hall_in(hall_text(hall))
            self.assertEqual(told, hall)
            self.assertIs(is_hall(told), True)

    def test_by_name(self):
        self.assertEqual(hall_in(text="0 sees -"), ((),))
        self.assertEqual(hall_in("0 sees 1\n1 sees 0 1"), ((1,), (0, 1)))

    def test_wrong_first_rows(self):
        for text in (
            "", "\n", " ", "0", "0 sees", "0 sees ", "0  sees -", " 0 sees -", "0 sees - ",
            "0 sees  -", "0 sees 0 ", "0 sees 0  0", "00 sees -", "0 sees 00", "0 sees 01",
            "1 sees -", "-0 sees -", "0 sees -0", "0 sees +0", "0 sees - 0", "0 sees 0 -",
            "0 sees --", "0 see -", "0 Sees -", "0 sees 0,1", "0 sees\t0", "0 sees 0\r", "0 sees 8",
            "0 sees 0 0", "0 sees 1 0", "0 sees 10", "0 sees 1_0", "0 sees \u0660", "0 sees \u00b2",
            "\u0660 sees -", "0 sees " + "9" * 6000, "9" * 6000 + " sees -", "house", "0 sees 1",
            "0 sees sees", "sees 0 -", "0 sees 0 sees 0", "0\x0bsees -", "0 sees -\r\n1 sees -",
            "\n0 sees -", "0 sees -\x0c", "0 sees 0 1",
        ):
            self.assertEqual(self.bad_row(text), 0, text)

    def test_wrong_further_rows(self):
        for text, row in (
            ("0 sees -\n", 1),
            ("0 sees -\n\n1 sees -", 1),
            ("0 sees -\n1 sees -\n", 2),
            ("0 sees -\n2 sees -", 1),
            ("0 sees -\n0 sees -", 1),
            ("0 sees -\n01 sees -", 1),
            ("0 sees -\n1  sees -", 1),
            ("0 sees -\n1 sees - ", 1),
            ("0 sees -\n 1 sees -", 1),
            ("0 sees -\n1 sees 1 0", 1),
            ("0 sees -\n1 sees 0 8", 1),
            ("0 sees -\n1 sees\n2 sees", 1),
        ):
            self.assertEqual(self.bad_row(text), row, text)

    def test_a_ninth_person(self):
        eight = hall_text(((),) * 8)
        self.assertIsNone(self.bad_row(eight))
        self.assertEqual(self.bad_row(eight + "\n8 sees -"), 8)
        self.assertEqual(self.bad_row(eight + "\n8 sees -\n9 sees -"), 8)
        self.assertEqual(self.bad_row(eight + "\n"), 8)
        self.assertEqual(self.bad_row(hall_text(beside(samples.WIDE, samples.NOBODY))), 8)

    def test_who_isnt_there_comes_behind_all_else(self):
        self.assertEqual(self.bad_row("0 sees -\n1 sees 2"), 1)
        self.assertEqual(self.bad_row("0 sees 7\n1 sees 2"), 0)
        self.assertEqual(self.bad_row("0 sees 7\n1 sees 8"), 1)
        self.assertEqual(self.bad_row("0 sees 2\n1 sees -\n"), 2)
        self.assertEqual(self.bad_row("0 sees 2\n1 sees -\n3 sees -"), 2)
        self.assertEqual(self.bad_row("0 sees -\n1 sees 0 3\n2 sees 3"), 1)
        self.assertIsNone(self.bad_row("0 sees 2\n1 sees -\n2 sees -"))

    def test_any_text(self):
        source = random.Random(6)
        signs = list("0123456789- \nsex/~\r\t") + ["\n1 sees -", " sees ", "  ", " 8"]
        for hall in samples.all_halls(2) + samples.some_halls(40):
            for text in changed_texts(hall_text(hall), signs, source, 60):
                self.assertEqual(self.bad_row(text), plain_bad_row(text), repr(text))

    def test_long_texts(self):
        self.assertEqual(self.bad_row("\n".join(f"{row} sees -" for row in range(100))), 8)
        self.assertEqual(self.bad_row("\n" * 99), 0)
        self.assertEqual(self.bad_row("0 sees -\n" + "1" * 200), 1)


class HistoryIn(unittest.TestCase):
    def bad_beat(self, hall, text):
        try:
            told = history_in(hall, text)
        except BadText as error:
            return error.beat
        self.assertIs(is_history(hall, told), True)
        self.assertEqual(history_text(told), text)
        return None

    def test_reads_what_was_written(self):
        for history in samples.all_histories(3, 3):
            told = history_in(samples.LINE, history_text(history))
            self.assertEqual(told, history)
            self.assertIs(is_history(samples.LINE, told), True)
        for hall in samples.some_halls():
            for history in samples.some_histories(hall):
                self.assertEqual(history_in(hall, history_text(history)), history)

    def test_told_ones(self):
        self.assertEqual(history_in(samples.LINE, ""), [])
        self.assertEqual(history_in(samples.LINE, "-"), [()])
        self.assertEqual(history_in(samples.LINE, "- / -"), [(), ()])
        self.assertEqual(history_in(text="0 2 / - / 1", hall=[[], [0], [1]]), [(0, 2), (), (1,)])

    def test_any_size(self):
        history = [(0, 1, 2), ()] * 700
        self.assertEqual(history_in(samples.LINE, history_text(history)), history)
        wide = beside(samples.WIDE, samples.WIDE)
        self.assertEqual(history_in(wide, "8 10 15"), [(8, 10, 15)])
        self.assertEqual(self.bad_beat(wide, "8 / 10 16"), 1)
        self.assertEqual(self.bad_beat(wide, "8 / 010"), 1)

    def test_wrong_beats(self):
        for text, beat in (
            (" ", 0), ("x", 0), ("3", 0), ("0 3", 0), ("00", 0), ("01", 0), ("-1", 0), ("+1", 0),
            ("0  1", 0), (" 0", 0), ("0 ", 0), ("1 0", 0), ("1 1", 0), ("0 -", 0), ("- 0", 0),
            ("--", 0), ("/", 0), (" / ", 0), (" /", 0), ("/ 0", 0), ("0/1", 0), ("0 /1", 0),
            ("0/ 1", 0), ("0 / ", 1), ("0 /", 0), ("0 /  / 1", 1), ("0 / / 1", 1), ("0 / / / 1", 1),
            (" / 0", 0), ("0 / 1 / 3", 2), ("0 / 1 / 2 1 / 3", 2), ("0 /  1", 1), ("0  / 1", 0),
            ("- / x", 1), ("0\n1", 0), ("0 / 1\n", 1), ("0\t1", 0), ("\u0660", 0), ("0 / \u00b2", 1),
            ("9" * 6000, 0), ("0 / " + "0" * 6000, 1), ("1_0", 0), ("0 / 1 / 2 / ", 3), ("", None),
        ):
            self.assertEqual(self.bad_beat(samples.LINE, text), beat, text)

    def test_persons_are_those_of_the_hall(self):
        self.assertIsNone(self.bad_beat(samples.NOBODY, "0 / 0"))
        self.assertEqual(self.bad_beat(samples.NOBODY, "0 / 1"), 1)
        self.assertIsNone(self.bad_beat(samples.WIDE, "7"))
        self.assertEqual(self.bad_beat(samples.WIDE, "8"), 0)

    def test_any_short_text(self):
        signs = "012-/ "
        for size in range(6):
            for text in itertools.product(signs, repeat=size):
                text = "".join(text)
                told = self.bad_beat(((), ()), text)
                self.assertEqual(told, plain_bad_beat(((), ()), text), repr(text))

    def test_any_text(self):
        source = random.Random(7)
        signs = list("0123456789- /x~\n") + [" / ", "  ", " /", "/ "]
        for hall in samples.some_halls(20):
            for history in samples.some_histories(hall):
                for text in changed_texts(history_text(history), signs, source, 40):
                    told = self.bad_beat(hall, text)
                    self.assertEqual(told, plain_bad_beat(hall, text), repr(text))

    def test_the_answer_is_the_askers(self):
        hall = samples.as_lists(samples.LINE)
        for text in ("", "0 / 1 2"):
            told = history_in(hall, text)
            before = list(told)
            told.append((9,))
            self.assertEqual(history_in(hall, text), before)
        self.assertEqual(hall, samples.as_lists(samples.LINE))


if __name__ == "__main__":
    unittest.main()

"""desk.py: point [20]."""

import random
import re
import unittest

import asking
import samples
from looktrails.alike import parting_trail
from looktrails.desk import answers
from looktrails.errors import BadRow, Called, NoBeat, NotCalled
from looktrails.halltexts import hall_in, hall_text, history_in, history_text
from looktrails.house import House
from looktrails.least import earliest
from looktrails.onebyone import one_by_one, shows_ring
from looktrails.trails import longest_trail
from looktrails.versions import words

LINE = "0 sees -\n1 sees 0\n2 sees 1"
SWAP = "0 sees 1\n1 sees 0"


def told(hall, *rows):
    """The answers to these rows, to a House of that hall's text."""
    return answers("\n".join([hall, "house", *rows]))


def numbers(things):
    return " ".join(map(str, things)) or "-"


def plain_answer(house, row):
    """The answer to a row that is so written, by the House and the functions."""
    word, *rest = row.split(" ", 1)
    hall, history = house.hall(), house.history()
    persons = [int(one) for one in rest[0].split(" ")] if rest and word != "like" else []
    if word in ("call", "late", "strike"):
        try:
            return numbers(house.call(persons) if word == "call" else getattr(house, word)(*persons))
        except (NoBeat, Called, NotCalled) as refusal:
            return "refused " + type(refusal).__name__
    if word == "cut":
        house.cut()
        return "done"
    if word == "undo":
        return "done" if house.undo() else "nothing"
    if word == "history":
        return history_text(history) or "-"
    if word == "least":
        return history_text(earliest(hall, history, watched=persons if rest else None)) or "-"
    if word == "row":
        answer = one_by_one(hall, history)
        if answer[0] == "row":
            return numbers(answer[1])
        ring = answer[2]
        while ring[0] != min(ring):
            ring = ring[1:] + ring[:1]
        return "ring " + numbers(ring)
    if word == "version":
        return str(house.version(*persons))
    if word == "hangs":
        return numbers(house.hangs(*persons))
    if word == "words":
        beats = [" ".join("%d:%s" % pair for pair in beat) or "-" for beat in words(hall, history)]
        return " / ".join(beats) or "-"
    if word == "longest":
        return numbers(longest_trail(hall, history))
    trail = parting_trail(hall, history, history_in(hall, rest[0]) if rest else [])
    return "yes" if trail is None else numbers(trail)


def is_written(row, many):
    """Whether a row behind `house` is so written, in a hall of so many persons."""
    person = "[0-%d]" % (many - 1)
    beat = f"(?:{person}(?: {person})*|-)"
    rows = re.fullmatch(
        rf"(call|least)((?: {person})*)|(?:late|strike) (?:0|[1-9][0-9]?) {person}|cut|undo|history|row"
        rf"|(?:version|hangs) {person}|words|longest|like((?: {beat}(?: / {beat})*)?)", row
    )
    if rows is None:
        return False
    groups = (rows.group(2) or "").split("/") + (rows.group(3) or "").split("/")
    persons = [part.split() for part in groups]
    return all(part == sorted(set(part)) for part in persons)


def drawn_row(source, many, beats):
    """A row that's so written, drawn by chance."""
    person = source.randrange(many)
    some = " ".join(str(one) for one in range(many) if source.random() < 0.5)
    history = history_text(samples.random_history(source, many, source.randint(0, 4)))
    place = source.randrange(beats + 2)
    rows = [f"call {some}".strip()] * 4 + [f"late {place} {person}", f"strike {place} {person}"] * 3
    rows += ["cut", "undo", "undo", "history", f"least {some}".strip(), "least", "row", "words", "longest"]
    rows += [f"version {person}", f"hangs {person}", f"like {history}".strip(), f"late {source.randrange(100)} 0"]
    return source.choice(rows)


class Words(unittest.TestCase):
    def test_none(self):
        self.assertEqual(told(LINE), [])
        self.assertEqual(answers("0 sees 0\nhouse"), [])

    def test_call(self):
        self.assertEqual(told(LINE, "call 0 2", "call 2", "call", "call 1 2"), ["0 2", "-", "-", "1"])

    def test_late_and_strike(self):
        rows = ("call 0", "call 1", "late 0 1", "late 1 0", "late 1 2", "strike 0 0", "strike 0 1")
        self.assertEqual(told(LINE, *rows), ["0", "1", "-", "-", "2", "1", "2"])
        rows = ("late 0 0", "call 0", "late 0 0", "late 1 0", "late 99 0", "strike 0 1", "strike 9 1", "history")
        right = ["refused NoBeat", "0", "refused Called", "refused NoBeat", "refused NoBeat", "refused NotCalled"]
        self.assertEqual(told(LINE, *rows), right + ["refused NoBeat", "0"])

    def test_cut_and_undo(self):
        rows = ("undo", "call", "call 0", "cut", "history", "undo", "history", "undo", "undo", "undo", "cut", "undo")
        right = ["nothing", "-", "0", "done", "0", "done", "- / 0", "done", "done", "nothing", "done", "done"]
        self.assertEqual(told(LINE, *rows), right)

    def test_a_refused_row_is_no_deed(self):
        self.assertEqual(told(LINE, "call 0", "late 0 0", "late 7 1", "undo", "undo")[3:], ["done", "nothing"])

    def test_history(self):
        rows = ("history", "call", "history", "call 0 2", "call 1", "history")
        self.assertEqual(told(LINE, *rows), ["-", "-", "-", "0 2", "1", "- / 0 2 / 1"])

    def test_least(self):
        rows = ("least", "call 2", "call 0", "call 1", "least", "least 0", "least 0 1", "least 2", "least 0 1 2")
        self.assertEqual(told(LINE, *rows)[4:], ["0 2 / 1", "0", "0 / 1", "2", "0 2 / 1"])
        self.assertEqual(told(LINE, "least", "least 0", "call", "least"), ["-", "-", "-", "-"])

    def test_row(self):
        self.assertEqual(told(LINE, "row", "call 0 1 2", "row"), ["-", "0 1 2", "2 1 0"])
        self.assertEqual(told(SWAP, "call 0 1", "row"), ["0 1", "ring 0 1"])
        self.assertEqual(told("0 sees 1\n1 sees 2\n2 sees 0", "call 0 1 2", "row")[1], "ring 0 1 2")
        self.assertEqual(told("0 sees 2\n1 sees 0\n2 sees 1", "call 0 1 2", "row")[1], "ring 0 2 1")
        self.assertEqual(told("0 sees -\n1 sees 3\n2 sees 1\n3 sees 2", "call 1 2 3", "row")[1], "ring 1 3 2")

    def test_version_and_hangs(self):
        rows = ("version 1", "hangs 1", "call 1", "version 1", "hangs 1", "call 0", "call 1", "version 1", "hangs 1")
        self.assertEqual(told(LINE, *rows), ["0", "1", "1", "1", "0", "0", "1", "2", "-"])

    def test_words(self):
        rows = ("words", "call", "call 0 1", "call 0", "call 2", "call 1", "words")
        right = "- / 0:needed 1:needed / 0:same / 2:needed / 1:needed"
        self.assertEqual(told(LINE, *rows)[0], "-")
        self.assertEqual(told(LINE, *rows)[-1], right)
        self.assertEqual(told(LINE, "call 1", "call 0", "call 1", "words")[-1], "1:unread / 0:needed / 1:needed")
        self.assertEqual(told(LINE, "call", "words")[-1], "-")

    def test_longest(self):
        rows = ("longest", "call 0", "call 1", "longest", "call 2", "longest")
        self.assertEqual(told(LINE, *rows), ["-", "0", "1", "1 0", "2", "2 1 0"])
        self.assertEqual(told(LINE, "longest", "call", "longest"), ["-", "-", "-"])

    def test_like(self):
        rows = ("like", "call 0", "call 1", "like 0 / 1", "like - / 0 / 0 1", "like 1 / 0")
        rows += ("like", "like -", "like 0 1")
        right = ["yes", "0", "1", "yes", "yes", "1 0", "0", "0", "1 0"]
        self.assertEqual(told(LINE, *rows), right)
        self.assertEqual(told(LINE, "like -", "like - / -", "call", "like"), ["yes", "yes", "-", "yes"])

    def test_the_ring_that_one_by_one_tells(self):
        met = 0
        for hall, history in samples.drawn_questions(300, (2, 6), 4, 20):
            rows = ["call " + numbers(beat) if beat else "call" for beat in history]
            answer = told(hall_text(hall), *rows, "row")[-1]
            if answer.startswith("ring "):
                met += 1
                ring = tuple(map(int, answer.split(" ")[1:]))
                self.assertEqual(ring[0], min(ring))
                word, beat, same = one_by_one(hall, history)
                self.assertEqual(sorted(ring), sorted(same))
                self.assertIs(shows_ring(hall, history, (word, beat, ring)), True)
        self.assertGreater(met, 10)


class EachRow(unittest.TestCase):
    def test_held_against_the_house_and_the_functions(self):
        source = random.Random(22)
        for number in range(150):
            hall = samples.random_hall(source, source.randint(1, 6))
            rows = [drawn_row(source, len(hall), 6) for row in range(source.randint(0, 30))]
            house = House(hall)
            self.assertEqual(told(hall_text(hall), *rows), [plain_answer(house, row) for row in rows])

    def test_a_text_as_large_as_may_be(self):
        source = random.Random(23)
        hall = samples.BUSY
        rows = ["call " + numbers(sorted(source.sample(range(8), 5))) for beat in range(60)]
        rows += ["row", "words", "longest", "least", "cut", "history", "like 0 / 1 2 3", "undo", "least 3 4"]
        rows += ["late 0 7", "strike 59 3", "hangs 5", "version 0"]
        house = House(hall)
        self.assertEqual(told(hall_text(hall), *rows), [plain_answer(house, row) for row in rows])

    def test_the_same_text_is_told_the_same(self):
        text = "\n".join([LINE, "house", "call 0 1", "words", "undo"])
        first = answers(text)
        first.append("spoilt")
        self.assertEqual(answers(text), ["0 1", "0:needed 1:needed", "done"])

    def test_in_all_ways_of_asking(self):
        asking.check_question(self, answers, {"text": "\n".join([SWAP, "house", "call 0 1", "row", "like"])})


class BadRows(unittest.TestCase):
    def bad(self, text):
        with self.assertRaises(BadRow) as refusal:
            answers(text)
        return refusal.exception.row

    def test_rows_that_are_not_so_written(self):
        for row in (
            "", " ", "-", "call -", "call 0 0", "call 1 0", "call 3", "call 0  1", "call 0 ", "call ", " call",
            " call 0", "call  0", "Call 0", "call 00", "call 01", "call 0,1", "call x", "call -1", "call +1",
            "call 0\t1", "call\t0", "late", "late 0", "late 0 3", "late 0 0 0", "late 00 0", "late 01 0",
            "late 100 0", "late -1 0", "late 0 -", "late  0 0", "late 0  0", "late 0 0 ", " late 0 0",
            "late 0 01", "late x 0", "late 0 x", "late - 0", "strike", "strike 0", "strike 0 3",
            "strike 0 0 0", "strike 100 0", "strike 00 0", "strike 0 0 ", "cut ", "cut 0", "Cut", "undo ",
            "undo 0", "undo -", "history ", "history 0", "history -", "row ", "row 0", "least ", "least -",
            "least 3", "least 1 0", "least 0 0", "least  0", "least 0 ", "least 00", "version", "version ",
            "version 3", "version 0 1", "version 00", "version -", "version  0", "version 0 ", "hangs",
            "hangs ", "hangs 3", "hangs 0 1", "hangs 01", "hangs -", "hangs 0 ", "words ", "words 0",
            "longest ", "longest 0", "like ", "like  ", "like 3", "like 1 0", "like 0 /", "like / 0",
            "like 0 / ", "like 0  / 1", "like 0 /1", "like 0/1", "like 0 / / 1", "like  0", "like 0 ",
            "like 00", "like -  / 0", "like 0 -", "like - 0", "like /", "like x", "house", "house ", "do",
            "twin", "log", "deeds", "hall", "0 sees -", "alike", "len", "call\r", "cut\r", "callx",
            "lates 0 0", "like0", "call 0 / 1", "\u0660", "call \u0661", "version \u00b2", "late 1\u0661 0",
        ):
            self.assertFalse(is_written(row, 3), row)
            self.assertEqual(self.bad("\n".join([LINE, "house", row])), 4, row)
            self.assertEqual(self.bad("\n".join([LINE, "house", "call 0", "late 9 1", row, ""])), 6, row)

    def test_rows_changed_a_bit(self):
        """Rows with a sign put in, struck, or put for another one, held against how they have to be written."""
        source = random.Random(24)
        signs = "0123789 -/xacekl"
        met = {True: 0, False: 0}
        for number in range(6000):
            row = drawn_row(source, 3, 4)
            for change in range(source.randint(1, 2)):
                place = source.randrange(len(row) + 1)
                row = row[:place] + source.choice(["", source.choice(signs)]) + row[place + source.randint(0, 1) :]
            right = is_written(row, 3)
            met[right] += 1
            text = "\n".join([LINE, "house", "call 0", row, "cut"])
            if right:
                house = House(hall_in(LINE))
                self.assertEqual(answers(text), [plain_answer(house, one) for one in ("call 0", row, "cut")], row)
            else:
                self.assertEqual(self.bad(text), 5, row)
        self.assertGreater(min(met.values()), 1000)

    def test_beats_of_two_figures(self):
        rows = ["call"] * 11 + ["late 10 0", "late 9 0", "strike 10 0", "late 11 0", "late 99 0"]
        self.assertEqual(told(LINE, *rows)[11:], ["0", "-", "-", "refused NoBeat", "refused NoBeat"])

    def test_rows_of_the_hall_as_hall_in(self):
        for hall, row in (
            ("0 sees", 0), ("1 sees -", 0), ("0 sees -\n0 sees -", 1), ("0 sees 1", 0), ("0 sees 1\n1 sees 2", 1),
            ("0 sees  -", 0), ("0 sees 0 0", 0), ("0 sees -\n", 1), ("\n0 sees -", 0), ("0 sees 8", 0),
            ("\n".join(f"{person} sees -" for person in range(9)), 8), ("", 0), ("x\ny", 0),
            ("0 sees 7\n1 sees - ", 1), ("0 sees 2\n1 sees 0", 0), ("0 sees -\n1 sees 1 0", 1),
        ):
            for behind in ("", "\ncall 0", "\ncall 9", "\n", "\nhouse"):
                self.assertEqual(self.bad(hall + "\nhouse" + behind), row, (hall, behind))

    def test_the_house_ahead_of_all(self):
        self.assertEqual(self.bad("house"), 0)
        self.assertEqual(self.bad("house\n0 sees -\nhouse"), 0)
        self.assertEqual(self.bad("house\ncall"), 0)

    def test_without_a_house_how_many_rows_there_are(self):
        for text, many in (
            ("", 1), ("\n", 2), (LINE, 3), (LINE + "\n", 4), (LINE + "\ncall 0", 4), ("x", 1), ("\n\n\n", 4),
            ("0 sees 9\n1 sees 9", 2), (LINE + "\nhouse ", 4), (LINE + "\n house", 4), (LINE + "\nHouse\ncall", 5),
            ("house house", 1), ("\n".join(["0 sees -"] * 100), 100),
        ):
            self.assertEqual(self.bad(text), many, text)

    def test_the_first_such_row_ahead_of_all_answers(self):
        self.assertEqual(self.bad("\n".join([LINE, "house", "call 0", "late 5 0", "bad", "worse"])), 6)
        self.assertEqual(self.bad("\n".join([LINE, "house", "call 0", "history", ""])), 6)

    def test_a_second_house_is_no_row(self):
        self.assertEqual(self.bad("\n".join([LINE, "house", "call 0", "house", "call 1"])), 5)


if __name__ == "__main__":
    unittest.main()

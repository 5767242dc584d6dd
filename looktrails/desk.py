"""A desk: rows of a text that do and ask something of a House, answered row by row."""

from looktrails.alike import parting_trail
from looktrails.errors import BadRow, BadText, Called, NoBeat, NotCalled
from looktrails.halltexts import hall_in, history_in, history_text, numbers_in, persons_text
from looktrails.house import House
from looktrails.kinds import rises
from looktrails.onebyone import one_by_one
from looktrails.trails import longest_trail
from looktrails.versions import words

BEATS_WRITTEN = 100


def nothing_in(hall, rest):
    """No things, of a word that stands alone, else None."""
    return [] if rest is None else None


def persons_in_row(hall, rest):
    """The rising list of the persons of a row, maybe none, else None."""
    if rest is None:
        return []
    persons = numbers_in(rest.split(" "), len(hall))
    return persons if persons is not None and rises(persons) else None


def person_in_row(hall, rest):
    """The one person of a row, in a list, else None."""
    persons = persons_in_row(hall, rest)
    return persons if persons is not None and len(persons) == 1 else None


def place_in_row(hall, rest):
    """The beat and the person of a row, else None."""
    if rest is None:
        return None
    beat, blank, person = rest.partition(" ")
    beats, persons = numbers_in([beat], BEATS_WRITTEN), numbers_in([person], len(hall))
    return beats + persons if beats is not None and persons is not None else None


def history_in_row(hall, rest):
    """The HISTORY of a row, else None."""
    if rest is None:
        return []
    if rest == "":
        return None
    try:
        return history_in(hall, rest)
    except BadText:
        return None


def call_answer(house, things):
    """The answer to `call`."""
    return persons_text(house.call(things))


def late_answer(house, things):
    """The answer to `late`."""
    return persons_text(house.late(things[0], things[1]))


def strike_answer(house, things):
    """The answer to `strike`."""
    return persons_text(house.strike(things[0], things[1]))


def cut_answer(house, things):
    """The answer to `cut`."""
    house.cut()
    return "done"


def undo_answer(house, things):
    """The answer to `undo`."""
    return "done" if house.undo() else "nothing"


def history_answer(house, things):
    """The answer to `history`."""
    return history_text(house.history()) or "-"


def least_answer(house, things):
    """The answer to `least`, of all where no persons are told."""
    return history_text(house.least(watched=things or None)) or "-"


def row_answer(house, things):
    """The answer to `row`."""
    told = one_by_one(house.hall(), house.history())
    if told[0] == "row":
        return persons_text(told[1])
    ring = told[2]
    least = ring.index(min(ring))
    return f"ring {persons_text(ring[least:] + ring[:least])}"


def version_answer(house, things):
    """The answer to `version`."""
    return str(house.version(things[0]))


def hangs_answer(house, things):
    """The answer to `hangs`."""
    return persons_text(house.hangs(things[0]))


def words_answer(house, things):
    """The answer to `words`."""
    beats = [
        " ".join([f"{person}:{word}" for person, word in pairs]) or "-"
        for pairs in words(house.hall(), house.history())
    ]
    return " / ".join(beats) or "-"


def longest_answer(house, things):
    """The answer to `longest`."""
    return persons_text(longest_trail(house.hall(), house.history()))


def like_answer(house, things):
    """The answer to `like`, things being a HISTORY."""
    trail = parting_trail(house.hall(), house.history(), things)
    return "yes" if trail is None else persons_text(trail)


# How what stands behind each word is read, and how it's answered.
READINGS = {
    "call": persons_in_row, "late": place_in_row, "strike": place_in_row, "cut": nothing_in,
    "undo": nothing_in, "history": nothing_in, "least": persons_in_row, "row": nothing_in,
    "version": person_in_row, "hangs": person_in_row, "words": nothing_in,
    "longest": nothing_in, "like": history_in_row,
}
ANSWERS = {
    "call": call_answer, "late": late_answer, "strike": strike_answer, "cut": cut_answer,
    "undo": undo_answer, "history": history_answer, "least": least_answer, "row": row_answer,
    "version": version_answer, "hangs": hangs_answer, "words": words_answer,
    "longest": longest_answer, "like": like_answer,
}


def answers(text):
    """The list of the answers, a text for each row behind `house`; BadRow ahead of all."""
    rows = text.split("\n")
    if "house" not in rows:
        raise BadRow(len(rows))
    start = rows.index("house")
    hall = hall_in("\n".join(rows[:start]))
    asked = [asked_in(hall, rows, number) for number in range(start + 1, len(rows))]
    house = House(hall)
    return [answer_to(house, word, things) for word, things in asked]


def asked_in(hall, rows, number):
    """The pair (word, things) of the row so numbered; BadRow where it isn't so written."""
    word, blank, rest = rows[number].partition(" ")
    if word not in READINGS:
        raise BadRow(number)
    reading = READINGS[word]
    things = reading(hall, rest if blank else None)
    if things is None:
        raise BadRow(number)
    return (word, things)


def answer_to(house, word, things):
    """The answer to one row, which may be what refused it."""
    answer = ANSWERS[word]
    try:
        return answer(house, things)
    except NoBeat:
        return "refused NoBeat"
    except Called:
        return "refused Called"
    except NotCalled:
        return "refused NotCalled"

"""Drops and exchanges of a ROW's calls, and the deeds that lead one ROW to another."""

from looktrails.alike import are_alike
from looktrails.errors import BadDeed
from looktrails.halls import seers
from looktrails.kinds import is_number, is_number_below
from looktrails.onebyone import as_history

AGAIN = "again"
LOST = "lost"
DROP = "drop"
EXCHANGE = "exchange"
PUT = "put"
# How many things each DEED has, its word among them.
SIZES = {"drop": 2, "exchange": 2, "put": 3}


def drop_word(hall, row, place):
    """How the call at that place may be dropped: "again", else "lost", else ""."""
    person = row[place]
    if person in hall[person]:
        return ""
    if comes_first(row[:place][::-1], person, hall[person]):
        return AGAIN
    if comes_first(row[place + 1:], person, seers(hall, person)):
        return LOST
    return ""


def comes_first(row, person, others):
    """Whether that person is met in a row, and ahead of all those others."""
    for one in row:
        if one == person:
            return True
        if one in others:
            return False
    return False


def may_exchange(hall, row, place):
    """Whether the calls at place and place + 1 may be exchanged."""
    # A place below 0 would be counted from the end, so it's asked of, too, here and below.
    if not is_number_below(place, len(row) - 1):
        return False
    first, second = row[place], row[place + 1]
    return first != second and first not in hall[second] and second not in hall[first]


def led(hall, row, deeds):
    """The ROW behind all these DEEDs; BadDeed with the number of the first that can't be done."""
    reached = list(row)
    for number, deed in enumerate(deeds):
        reached = behind_deed(hall, reached, deed)
        if reached is None:
            raise BadDeed(number)
    return reached


def behind_deed(hall, row, deed):
    """The ROW behind a DEED, None where it can't be done."""
    if deed[0] == DROP:
        return behind_drop(hall, row, deed[1])
    if deed[0] == EXCHANGE:
        return behind_exchange(hall, row, deed[1])
    return behind_put(hall, row, deed[1], deed[2])


def behind_drop(hall, row, place):
    """The ROW without the call at that place, None where it may not be dropped."""
    if not is_number_below(place, len(row)) or drop_word(hall, row, place) == "":
        return None
    return row[:place] + row[place + 1:]


def behind_exchange(hall, row, place):
    """The ROW with two neighbours exchanged, None where they may not be."""
    if not may_exchange(hall, row, place):
        return None
    return row[:place] + [row[place + 1], row[place]] + row[place + 2:]


def behind_put(hall, row, place, person):
    """The ROW with a call put in, None where it might not be dropped there at once."""
    if not is_number_below(place, len(row) + 1) or not is_number_below(person, len(hall)):
        return None
    reached = row[:place] + [person] + row[place:]
    return reached if drop_word(hall, reached, place) != "" else None


def deeds_between(hall, one, other):
    """A list of DEEDs that leads the one ROW to the other, None where they aren't alike."""
    if not are_alike(hall, as_history(one), as_history(other)):
        return None
    mine, my_drops = dropped(hall, one)
    yours, your_drops = dropped(hall, other)
    drops = [(DROP, place) for place, person in my_drops]
    puts = [(PUT, place, person) for place, person in your_drops[::-1]]
    return drops + exchanges(mine, yours) + puts


def dropped(hall, row):
    """The pair (ROW of the needed calls, pairs (place, person) of those dropped, one by one)."""
    left = list(row)
    drops = []
    # Once those ahead of it are gone that write nothing new, such a call may be dropped as again.
    place = 0
    while place < len(left):
        if drop_word(hall, left, place) == AGAIN:
            drops.append((place, left.pop(place)))
        else:
            place += 1
    # Behind that, the last one that isn't needed is lost.
    while place > 0:
        place -= 1
        if drop_word(hall, left, place) == LOST:
            drops.append((place, left.pop(place)))
    return (left, drops)


def exchanges(one, other):
    """The exchanges that lead a ROW of needed calls to another one of the same calls."""
    now = numbered(one)
    deeds = []
    for place, call in enumerate(numbered(other)):
        found = now.index(call)
        deeds.extend([(EXCHANGE, step) for step in range(place, found)][::-1])
        now.insert(place, now.pop(found))
    return deeds


def numbered(row):
    """The calls of a ROW as pairs (person, number), each person's counted from 1."""
    counts = {}
    calls = []
    for person in row:
        counts[person] = counts.get(person, 0) + 1
        calls.append((person, counts[person]))
    return calls


def shows_deeds(hall, one, other, thing):
    """Whether a thing is a list of DEEDs that leads the one ROW to the other."""
    if not isinstance(thing, list) or not all([is_deed(deed) for deed in thing]):
        return False
    try:
        return led(hall, one, thing) == list(other)
    except BadDeed:
        return False


def is_deed(thing):
    """Whether a thing is a DEED, at whatever place."""
    if not isinstance(thing, tuple) or len(thing) == 0 or not isinstance(thing[0], str):
        return False
    if thing[0] not in SIZES or len(thing) != SIZES[thing[0]]:
        return False
    return all([is_number(one) for one in thing[1:]])

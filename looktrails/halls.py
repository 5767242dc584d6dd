"""Halls of persons who see slates, and histories of beats that call them."""

from looktrails.kinds import is_rising_below


def is_hall(thing):
    """Whether a thing is a HALL, of any size."""
    if not isinstance(thing, tuple) or len(thing) == 0:
        return False
    return all([is_rising_below(row, len(thing)) for row in thing])


def is_history(hall, thing):
    """Whether a thing is a HISTORY of that hall, of any size."""
    if not isinstance(thing, list):
        return False
    return all([is_rising_below(beat, len(hall)) for beat in thing])


def seers(hall, person):
    """The rising list of those who see that person."""
    return [seer for seer, row in enumerate(hall) if person in row]


def turned_hall(hall):
    """The HALL in which each sees just those who see it here."""
    rows = [[] for row in hall]
    for seer, row in enumerate(hall):
        for person in row:
            rows[person].append(seer)
    return tuple([tuple(row) for row in rows])


def turned(history):
    """The beats the other way about."""
    return [tuple(beat) for beat in history[::-1]]


def beside(one, other):
    """The HALL of one's persons and, numbered behind these, other's."""
    ahead = len(one)
    first = [tuple(row) for row in one]
    second = [tuple([ahead + person for person in row]) for row in other]
    return tuple(first + second)


def calls_in(history):
    """How many calls a history has."""
    return sum([len(beat) for beat in history])

"""Histories told call by call, or the ring that bars it."""

from looktrails.errors import NoRow, TooMany
from looktrails.kinds import is_number_below
from looktrails.least import earliest
from looktrails.order import bounds, needed
from looktrails.rings import is_ring, ring_among

MOST_COUNTED = 12


def as_history(row):
    """The HISTORY of a ROW."""
    return [(person,) for person in row]


def one_by_one(hall, history, *, watched=None):
    """The pair ("row", ROW), or the triple ("ring", beat, ring) where no ROW is alike."""
    ahead = calls_ahead(hall, history, watched)
    row = first_row(hall, ahead)
    if len(row) == len(ahead):
        return ("row", row)
    return first_ring(hall, earliest(hall, history, watched=watched))


def calls_ahead(hall, history, watched):
    """For each CALL those that come ahead of it in every ROW of just the needed calls.

    No two calls of a ROW share a beat, so a bound of step 0 is as strict as one of 1.
    """
    ahead = {call: [] for call in needed(hall, history, watched=watched)}
    for first, second, step in bounds(hall, history, watched=watched):
        ahead[second].append(first)
    return ahead


def free_persons(ahead, counts):
    """The rising list of those whose next CALL may come, so many of each having been."""
    return [person for person, count in enumerate(counts) if is_free(ahead, (person, count + 1), counts)]


def is_free(ahead, call, counts):
    """Whether there's such a CALL, and all that come ahead of it have been."""
    if call not in ahead:
        return False
    return all([number <= counts[person] for person, number in ahead[call]])


def first_row(hall, ahead):
    """The first ROW, as lists rise, as far as calls may come."""
    counts = [0 for person in hall]
    row = []
    free = free_persons(ahead, counts)
    while free:
        row.append(free[0])
        counts[free[0]] += 1
        free = free_persons(ahead, counts)
    return row


def first_ring(hall, laying):
    """The triple of the first beat at which a RING of two or more is called, None of none."""
    # A person who sees itself can be called alone, so such a sight bars nothing.
    others = [[seen for seen in row if seen != person] for person, row in enumerate(hall)]
    for beat, persons in enumerate(laying):
        ring = ring_among(others, persons)
        if ring is not None:
            return ("ring", beat, ring)
    return None


def shows_ring(hall, history, thing, *, watched=None):
    """Whether a thing is a triple ("ring", beat, ring), of any beat at which such a RING is called."""
    if not isinstance(thing, tuple) or len(thing) != 3 or thing[0] != "ring":
        return False
    beat, ring = thing[1:]
    laying = earliest(hall, history, watched=watched)
    if not is_number_below(beat, len(laying)) or not is_ring(hall, ring):
        return False
    return len(ring) > 1 and all([person in laying[beat] for person in ring])


def rows_many(hall, history, *, watched=None):
    """How many ROWs of fewest calls are alike to a history; TooMany where over 12 are needed."""
    ahead = few_calls_ahead(hall, history, watched)
    return ways_on(ahead, tuple([0 for person in hall]), {})


def row_at(hall, history, number, *, watched=None):
    """The ROW so numbered of those of fewest calls, as lists rise; TooMany, then NoRow."""
    ahead = few_calls_ahead(hall, history, watched)
    counts = tuple([0 for person in hall])
    known = {}
    if not is_number_below(number, ways_on(ahead, counts, known)):
        raise NoRow(number)
    row = []
    left = number
    while len(row) < len(ahead):
        person, left = step_to(ahead, counts, known, left)
        row.append(person)
        counts = one_more(counts, person)
    return row


def few_calls_ahead(hall, history, watched):
    """As calls_ahead, but TooMany where over 12 are needed."""
    ahead = calls_ahead(hall, history, watched)
    if len(ahead) > MOST_COUNTED:
        raise TooMany(len(ahead))
    return ahead


def ways_on(ahead, counts, known):
    """How many ROWs go on from where so many of each have been; known keeps what's counted."""
    if sum(counts) == len(ahead):
        return 1
    if counts not in known:
        steps = [one_more(counts, person) for person in free_persons(ahead, counts)]
        known[counts] = sum([ways_on(ahead, step, known) for step in steps])
    return known[counts]


def one_more(counts, person):
    """The counts with one more call of that person."""
    return tuple([count + 1 if one == person else count for one, count in enumerate(counts)])


def step_to(ahead, counts, known, number):
    """The pair (person, number left) of who comes next in the ROW so numbered from here on."""
    for person in free_persons(ahead, counts):
        ways = ways_on(ahead, one_more(counts, person), known)
        if number < ways:
            return (person, number)
        number -= ways
    return None

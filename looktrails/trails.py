"""Trails along sights, and which of them go in a history."""

from looktrails.kinds import is_number_below
from looktrails.writings import Book, last_slates, looks_along


def is_trail(hall, thing):
    """Whether a thing is a TRAIL of that hall."""
    if not isinstance(thing, tuple) or len(thing) == 0:
        return False
    if not all([is_number_below(one, len(hall)) for one in thing]):
        return False
    return all([seen in hall[person] for person, seen in zip(thing, thing[1:])])


def dates(hall, history, trail, *, ahead=None):
    """The list of a trail's dates, as far as there are such."""
    beat = len(history) if ahead is None else min(ahead, len(history))
    found = []
    for person in trail:
        beat = latest_call(history, person, beat)
        if beat is None:
            break
        found.append(beat)
    return found


def latest_call(history, person, ahead):
    """The latest beat ahead of that one at which the person is called, None where there's none."""
    for beat in reversed(range(ahead)):
        if person in history[beat]:
            return beat
    return None


def goes(hall, history, trail):
    """Whether all of a trail have dates."""
    return len(dates(hall, history, trail)) == len(trail)


def trails_of(hall, history, person, *, long=4):
    """The rising list of all TRAILs of 1 to long persons that begin with that one and go."""
    book = Book(hall)
    slates = last_slates(book, hall, history)
    level = called_only(book, [((person,), slates[person])])
    found = []
    for size in range(long):
        found.extend([trail for trail, writing in level])
        level = called_only(book, longer(book, hall, level))
    return sorted(found)


def longer(book, hall, level):
    """All pairs (trail, writing of its last one) that go on from those of a level."""
    return [
        (trail + (seen,), looked)
        for trail, writing in level
        for seen, looked in looks_along(book, hall, trail[-1], writing)
    ]


def called_only(book, level):
    """Those pairs (trail, writing) whose writing a call has written."""
    return [(trail, writing) for trail, writing in level if not book.is_first(writing)]


def longest_trail(hall, history):
    """The first, as tuples rise, of the longest TRAILs that go; () where nobody is called."""
    book = Book(hall)
    slates = last_slates(book, hall, history)
    lengths = trail_lengths(book)
    left = max([lengths[writing] for writing in slates])
    steps = list(enumerate(slates))
    trail = ()
    while left > 0:
        person, writing = first_of_length(steps, lengths, left)
        trail += (person,)
        steps = looks_along(book, hall, person, writing)
        left -= 1
    return trail


def trail_lengths(book):
    """How many persons the longest trail has that goes from each writing."""
    lengths = []
    # What a writing looks at stands in the book ahead of it.
    for looked in book.looks:
        if looked is None:
            lengths.append(0)
        else:
            lengths.append(1 + max([lengths[writing] for writing in looked], default=0))
    return lengths


def first_of_length(steps, lengths, length):
    """The first of the pairs (person, writing) from which the longest trail is so long."""
    return [step for step in steps if lengths[step[1]] == length][0]

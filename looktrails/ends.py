"""Halls without rings: there all histories come to an end, and there are only so many."""

from looktrails.errors import Endless, TooMany
from looktrails.rings import ring_among, seen_first
from looktrails.writings import Book

MOST_ENDS = 300


def settled(hall):
    """The first ROW of fewest calls behind which no call makes anything otherwise; else Endless."""
    refuse_rings(hall)
    # Called once each, behind all that it sees: nobody can be settled with less.
    return seen_first(hall)


def refuse_rings(hall):
    """Endless where a hall has a RING."""
    ring = ring_among(hall, list(range(len(hall))))
    if ring is not None:
        raise Endless(ring)


def ends(hall):
    """The first ROWs of all unlike histories, shorter ones ahead; Endless, then TooMany."""
    refuse_rings(hall)
    book = Book(hall)
    start = tuple(range(len(hall)))
    met = {start: True}
    queue = [([], start)]
    place = 0
    # Shorter ROWs, and of those the first as lists rise, come first here, so the ROW by
    # which slates are first met is the one to keep.
    while place < len(queue):
        row, slates = queue[place]
        for person, following in calls_from(book, hall, slates):
            if following not in met:
                met[following] = True
                queue.append((row + [person], following))
        if len(queue) > MOST_ENDS:
            raise TooMany(MOST_ENDS)
        place += 1
    return [row for row, slates in queue]


def calls_from(book, hall, slates):
    """The pairs (person, slates behind its call), person by person."""
    steps = []
    for person, row in enumerate(hall):
        looked = tuple([slates[seen] for seen in row])
        written = book.written(person, looked)
        steps.append((person, slates[:person] + (written,) + slates[person + 1:]))
    return steps


def ends_many(hall):
    """How many unlike histories there are; Endless, then TooMany."""
    return len(ends(hall))

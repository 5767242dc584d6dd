"""The versions of slates, and which calls write one that matters."""

from looktrails.kinds import watched_ones
from looktrails.writings import Book, slate_rows

SAME = "same"
NEEDED = "needed"
UNREAD = "unread"


def version_rows(hall, history):
    """For each beat the versions ahead of it, person by person, and then the last ones."""
    rows = slate_rows(Book(hall), hall, history)
    versions = [0 for person in hall]
    told = [versions]
    for ahead, behind in zip(rows, rows[1:]):
        versions = [
            version if old == new else version + 1
            for version, old, new in zip(versions, ahead, behind)
        ]
        told.append(versions)
    return told


def version_at(hall, history, person, *, ahead=None):
    """The number of that person's version ahead of a beat, at the end where that's None."""
    beat = len(history) if ahead is None else min(ahead, len(history))
    return version_rows(hall, history)[beat][person]


def written_at(hall, history, person):
    """The list of the beats at which that person writes a new version."""
    rows = version_rows(hall, history)
    return [beat for beat in range(len(history)) if rows[beat][person] != rows[beat + 1][person]]


def seen_at(hall, history, beat, person):
    """The list of pairs (seen, version) of all that one called at that beat sees then."""
    return sights_in(hall, version_rows(hall, history)[beat], person)


def sights_in(hall, versions, person):
    """The list of pairs (seen, version) of all that a person sees while these versions stand."""
    return [(seen, versions[seen]) for seen in hall[person]]


def words(hall, history, *, watched=None):
    """For each beat the list of pairs (person, word) of those called."""
    rows = version_rows(hall, history)
    wanted = {(person, rows[-1][person]): True for person in watched_ones(hall, watched)}
    told = []
    # Whether a call is seen by a needed one is known only from the end on.
    for beat in reversed(range(len(history))):
        pairs = [(person, word_of(rows, beat, person, wanted)) for person in history[beat]]
        for person, word in pairs:
            if word == NEEDED:
                for sight in sights_in(hall, rows[beat], person):
                    wanted[sight] = True
        told.append(pairs)
    return told[::-1]


def word_of(rows, beat, person, wanted):
    """The word of a call, wanted holding all (person, version) that are wanted behind it."""
    written = rows[beat + 1][person]
    if written == rows[beat][person]:
        return SAME
    return NEEDED if (person, written) in wanted else UNREAD

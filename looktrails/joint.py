"""Papers that show of two histories, from end to end, that they're alike or that they aren't."""

from looktrails.alike import parting_rules, parting_trail, shows_parted
from looktrails.kinds import watched_ones
from looktrails.least import earliest
from looktrails.order import keeps
from looktrails.trails import goes, is_trail
from looktrails.writings import Book, last_slates

ALIKE = "alike"
UNLIKE = "unlike"


def paper_for(hall, one, other, *, watched=None):
    """The pair ("alike", earliest), or the triple ("unlike", trail, rules)."""
    trail = parting_trail(hall, one, other, watched=watched)
    if trail is None:
        return (ALIKE, earliest(hall, one, watched=watched))
    return (UNLIKE, trail, parting_rules(hall, trail))


def shows_paper(hall, one, other, thing, *, watched=None):
    """Whether a thing is a paper that shows of both that they're alike, or that they aren't."""
    if not isinstance(thing, tuple):
        return False
    if len(thing) == 2 and thing[0] == ALIKE:
        return all([keeps(hall, history, thing[1], watched=watched) for history in (one, other)])
    if len(thing) == 3 and thing[0] == UNLIKE:
        if not parts(hall, one, other, thing[1], watched):
            return False
        bare = [() for person in hall]
        return shows_parted(hall, one, other, (thing[2], bare), watched=watched)
    return False


def parts(hall, one, other, thing, watched):
    """Whether a thing is a TRAIL that begins with a watched one and goes in just one of both."""
    if not is_trail(hall, thing) or thing[0] not in watched_ones(hall, watched):
        return False
    return goes(hall, one, thing) != goes(hall, other, thing)


def answers_for(hall, pairs):
    """The list of the papers for each of these pairs of HISTORYs."""
    return [paper_for(hall, one, other) for one, other in pairs]


def likes(hall, histories):
    """The list of rising lists of places of those HISTORYs that are alike, by their first ones."""
    book = Book(hall)
    groups = {}
    for place, history in enumerate(histories):
        slates = tuple(last_slates(book, hall, history))
        groups.setdefault(slates, []).append(place)
    return list(groups.values())

"""Whether two histories leave the same slates, and what parts them where they don't."""

from looktrails.kinds import watched_ones
from looktrails.runs import are_slates, is_rules, run_marks
from looktrails.writings import Book, last_slates


def are_alike(hall, one, other, *, watched=None):
    """Whether two histories are alike for those watched."""
    unlike = unlike_persons(hall, one, other)
    return not any([person in unlike for person in watched_ones(hall, watched)])


def unlike_persons(hall, one, other):
    """The rising list of those for whom by themselves both histories aren't alike."""
    pairs = last_pairs(Book(hall), hall, one, other)
    return [person for person, (mine, yours) in enumerate(pairs) if mine != yours]


def last_pairs(book, hall, one, other):
    """For each person the pair of writings that the two histories leave."""
    return list(zip(last_slates(book, hall, one), last_slates(book, hall, other)))


def parting_trail(hall, one, other, *, watched=None):
    """The first of the shortest TRAILs of watched ones that go in just one of both, or None."""
    book = Book(hall)
    pairs = last_pairs(book, hall, one, other)
    queue = [((person,), pairs[person]) for person in watched_ones(hall, watched)]
    met = {}
    place = 0
    # Shorter trails, and of those the first as tuples rise, come first here.
    while place < len(queue):
        trail, pair = queue[place]
        if book.is_first(pair[0]) != book.is_first(pair[1]):
            return trail
        for step in unlike_steps(book, hall, trail, pair):
            if step[1] not in met:
                met[step[1]] = True
                queue.append(step)
        place += 1
    return None


def unlike_steps(book, hall, trail, pair):
    """The trails one person longer, each with its pair of writings, where these are unlike."""
    if book.is_first(pair[0]):
        return []
    looked, met = book.looks[pair[0]], book.looks[pair[1]]
    return [
        (trail + (seen,), (mine, yours))
        for seen, mine, yours in zip(hall[trail[-1]], looked, met)
        if mine != yours
    ]


def parting_rules(hall, trail):
    """RULES that write 0, from bare slates, for the trail's first just where it goes."""
    always = [[] for person in hall]
    pairs = [[] for person in hall]
    # The mark of each place in the trail says that the rest from there on goes.
    always[trail[-1]].append(len(trail) - 1)
    for place, seen in enumerate(trail[1:]):
        pairs[trail[place]].append((seen, place + 1, place))
    return [(tuple(marks), tuple(sorted(rows))) for marks, rows in zip(always, pairs)]


def shows_parted(hall, one, other, thing, *, watched=None):
    """Whether a thing is a pair (RULES, first slates) that parts both for one who is watched."""
    if not isinstance(thing, tuple) or len(thing) != 2:
        return False
    rules, first = thing
    if not is_rules(hall, rules) or not are_slates(hall, first):
        return False
    mine = run_marks(hall, one, rules, first)
    yours = run_marks(hall, other, rules, first)
    return any([mine[person] != yours[person] for person in watched_ones(hall, watched)])

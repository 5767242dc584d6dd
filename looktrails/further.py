"""From where one history left the hall on to another one's end, or what shows that it's too late."""

from looktrails.kinds import watched_ones
from looktrails.least import is_pair, laid, pushed, timely_bounds
from looktrails.order import all_sights, call_beats, needed_only
from looktrails.writings import Book, last_slates, slate_rows


def further(hall, one, other, *, watched=None):
    """The pair ("goes", HISTORY) of the least that leads one to other's end, else ("late", wants)."""
    wanted = all_wanted(hall, one, other, watched)
    first_slates = [want for want in wanted if want[1] == 0]
    if first_slates:
        return ("late", wants_to(wanted, first_slates[0]))
    rows = timely_bounds(hall, other, watched)
    # What a wanted CALL sees stands already or is wanted too, so no other bounds bind here.
    inner = [row for row in rows if row[0] in wanted and row[1] in wanted]
    return ("goes", laid(pushed(wanted, inner)[0]))


def all_wanted(hall, one, other, watched):
    """All that's wanted, each with a wanted CALL that sees it, None of a watched one's last."""
    missing = missing_pairs(hall, one, other, watched)
    looks = all_sights(hall, other, watched)
    queue = [pair for pair in last_pairs(hall, looks, watched) if pair in missing]
    wanted = {pair: None for pair in queue}
    place = 0
    while place < len(queue):
        for pair in looks.get(queue[place], []):
            if pair in missing and pair not in wanted:
                wanted[pair] = queue[place]
                queue.append(pair)
        place += 1
    return wanted


def missing_pairs(hall, one, other, watched):
    """Those of other's CALLs and first slates that aren't what stands behind one, as keys."""
    book = Book(hall)
    slates = last_slates(book, hall, one)
    kept = needed_only(hall, other, watched)
    rows = slate_rows(book, hall, kept)
    written = {(person, 0): first for person, first in enumerate(rows[0])}
    for call, beat in call_beats(kept).items():
        written[call] = rows[beat + 1][call[0]]
    return {pair: True for pair in written if written[pair] != slates[pair[0]]}


def last_pairs(hall, looks, watched):
    """The last CALL of each watched one, (person, 0) where it has none."""
    counts = [0 for person in hall]
    for person, number in looks:
        counts[person] = max(counts[person], number)
    return [(person, counts[person]) for person in watched_ones(hall, watched)]


def wants_to(wanted, want):
    """The wants that lead from a watched one's last CALL to that one."""
    wants = []
    while want is not None:
        wants.append(want)
        want = wanted[want]
    return wants[::-1]


def shows_late(hall, one, other, thing, *, watched=None):
    """Whether a thing is a list of wants such as further tells."""
    if not isinstance(thing, list) or len(thing) == 0 or not all([is_pair(pair) for pair in thing]):
        return False
    missing = missing_pairs(hall, one, other, watched)
    looks = all_sights(hall, other, watched)
    if thing[0] not in last_pairs(hall, looks, watched) or thing[-1][1] != 0:
        return False
    seen = [pair in looks.get(call, []) for call, pair in zip(thing, thing[1:])]
    return all(seen) and all([pair in missing for pair in thing])

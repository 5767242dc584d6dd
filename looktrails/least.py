"""The least histories alike to a told one, and what shows that none has fewer beats."""

from looktrails.halls import calls_in
from looktrails.kinds import is_number
from looktrails.order import bounds, call_beats, needed, needed_only


def earliest(hall, history, *, watched=None):
    """The HISTORY of just the needed calls, each as early as the bounds let."""
    return laid(early_beats(hall, history, watched)[0])


def latest(hall, history, *, watched=None):
    """The HISTORY of as many beats, each call as late as lets all be within them."""
    return laid(late_beats(hall, history, watched))


def fewest(hall, history, *, watched=None):
    """The pair (calls, beats) of the least that an alike history can have."""
    laying = earliest(hall, history, watched=watched)
    return (calls_in(laying), len(laying))


def chain(hall, history, *, watched=None):
    """A list of CALLs, each bound to the next one, that fewer beats have no room for."""
    beats, pushers = early_beats(hall, history, watched)
    last = max([beats[call] for call in beats], default=0)
    ends = [one for one in beats if beats[one] == last]
    call = ends[0] if ends else None
    links = []
    while call is not None:
        links.append(call)
        call = pushers[call]
    return links[::-1]


def spans(hall, history, *, watched=None):
    """The rising list of triples (CALL, first, last): its beats in earliest and in latest."""
    early = early_beats(hall, history, watched)[0]
    late = late_beats(hall, history, watched)
    return [(call, early[call], late[call]) for call in sorted(early)]


def shows_chain(hall, history, thing, *, watched=None):
    """Whether a thing is a list of CALLs such as chain tells."""
    known = {call: True for call in needed(hall, history, watched=watched)}
    if not isinstance(thing, list) or not all([is_pair(one) and one in known for one in thing]):
        return False
    if len(thing) == 0:
        return len(known) == 0
    rows = bounds(hall, history, watched=watched)
    steps = {(first, second): step for first, second, step in rows}
    links = list(zip(thing, thing[1:]))
    if not all([link in steps for link in links]):
        return False
    return sum([steps[link] for link in links]) == fewest(hall, history, watched=watched)[1] - 1


def is_pair(thing):
    """Whether a thing is a tuple of two numbers."""
    return isinstance(thing, tuple) and len(thing) == 2 and all([is_number(one) for one in thing])


def early_beats(hall, history, watched):
    """For each CALL its earliest beat, and the CALL that lets it be no earlier, or None."""
    calls = needed(hall, history, watched=watched)
    return pushed(calls, timely_bounds(hall, history, watched))


def late_beats(hall, history, watched):
    """For each CALL the latest beat that lets all be within the fewest beats."""
    calls = needed(hall, history, watched=watched)
    rows = timely_bounds(hall, history, watched)
    # Told from the end on, with all bounds the other way about, late is early.
    tails = pushed(calls, [(second, first, step) for first, second, step in rows[::-1]])[0]
    last = max([tails[call] for call in calls], default=0)
    return {call: last - tails[call] for call in calls}


def timely_bounds(hall, history, watched):
    """The bounds, those of calls that come first in the history ahead."""
    beats = call_beats(needed_only(hall, history, watched))
    rows = bounds(hall, history, watched=watched)
    return sorted(rows, key=lambda row: beats[row[0]])


def pushed(calls, rows):
    """The pair (beats, pushers): for each CALL the least beat that these bounds let, and by which.

    Bounds of step 0 may run in a ring, so no order of the calls is right for one
    pass: passes are made until none moves a call. In a timely order few are.
    """
    beats = {call: 0 for call in calls}
    pushers = {call: None for call in calls}
    moved = True
    while moved:
        moved = False
        for first, second, step in rows:
            if beats[second] < beats[first] + step:
                beats[second] = beats[first] + step
                pushers[second] = first
                moved = True
    return (beats, pushers)


def laid(beats):
    """The HISTORY of these CALLs at these beats."""
    many = max([beats[call] + 1 for call in beats], default=0)
    rows = [[] for beat in range(many)]
    for call in sorted(beats):
        rows[beats[call]].append(call[0])
    return [tuple(row) for row in rows]

"""The needed calls of a history, and the order in which they have to come."""

from looktrails.halls import is_history
from looktrails.versions import NEEDED, words


def needed(hall, history, *, watched=None):
    """The rising list of all CALLs."""
    return sorted(all_sights(hall, history, watched))


def sights(hall, history, call, *, watched=None):
    """The list of pairs (seen, number) of all that a CALL sees, 0 of a first slate."""
    return all_sights(hall, history, watched)[tuple(call)]


def all_sights(hall, history, watched):
    """For each CALL, beat by beat, the list of pairs (seen, number) of all that it sees."""
    counts = [0 for person in hall]
    found = {}
    for beat in needed_only(hall, history, watched):
        # What a needed call sees is needed, so the last such call of each one seen wrote it.
        for person in beat:
            found[(person, counts[person] + 1)] = [(seen, counts[seen]) for seen in hall[person]]
        for person in beat:
            counts[person] += 1
    return found


def needed_only(hall, history, watched):
    """The history without the calls that aren't needed."""
    told = words(hall, history, watched=watched)
    return [tuple([person for person, word in pairs if word == NEEDED]) for pairs in told]


def bounds(hall, history, *, watched=None):
    """The rising list of triples (CALL, CALL, step)."""
    looks = all_sights(hall, history, watched)
    steps = {}
    for call in looks:
        for seen, number in looks[call]:
            wiping = (seen, number + 1)
            if number > 0:
                steps[((seen, number), call)] = 1
            if wiping in looks and wiping != call:
                # A step of 1 that is known already is the greater one.
                steps.setdefault((call, wiping), 0)
        person, number = call
        if number > 1:
            steps[((person, number - 1), call)] = 1
    return sorted([(first, second, steps[(first, second)]) for first, second in steps])


def keeps(hall, history, thing, *, watched=None):
    """Whether a thing is a HISTORY of just the needed calls that keeps all bounds."""
    if not is_history(hall, thing):
        return False
    beats = call_beats(thing)
    if sorted(beats) != needed(hall, history, watched=watched):
        return False
    rows = bounds(hall, history, watched=watched)
    return all([beats[first] + step <= beats[second] for first, second, step in rows])


def call_beats(history):
    """For each call of a history, as (person, number) counted from 1, its beat."""
    counts = {}
    beats = {}
    for beat, persons in enumerate(history):
        for person in persons:
            counts[person] = counts.get(person, 0) + 1
            beats[(person, counts[person])] = beat
    return beats

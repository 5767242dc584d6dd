"""Second ways, slow and close to the document's words, that the answers are held against.

A slate is told here by the tree of all that was seen: that's what rules which
tell everything write, so two slates are the same whatever the rules and the first
slates are just where their trees are. Trees double from beat to beat: they're for
small histories alone.
"""

import itertools


def tree_rows(hall, history):
    """For each beat the trees that stand ahead of it, and then the last ones."""
    rows = [[("first", person) for person in range(len(hall))]]
    for beat in history:
        rows.append(
            [
                ("call", person, tuple(rows[-1][seen] for seen in hall[person]))
                if person in beat
                else rows[-1][person]
                for person in range(len(hall))
            ]
        )
    return rows


def last_trees(hall, history):
    return tuple(tree_rows(hall, history)[-1])


def watched_trees(hall, history, watched=None):
    """The last trees of those watched."""
    trees = last_trees(hall, history)
    return trees if watched is None else tuple(trees[person] for person in watched)


def first_slates_in(tree):
    """The persons whose first slates are left in a tree."""
    if tree[0] == "first":
        return {tree[1]}
    return {person for branch in tree[2] for person in first_slates_in(branch)}


def calls_within(tree):
    """All trees of calls within a tree, itself among them."""
    if tree[0] == "first":
        return set()
    return {tree}.union(*[calls_within(branch) for branch in tree[2]])


def all_trails(hall, longest):
    """All trails of up to so many persons, shorter ones ahead, of like length as tuples rise."""
    found = []
    level = [(person,) for person in range(len(hall))]
    for size in range(longest):
        found.extend(level)
        level = sorted(trail + (seen,) for trail in level for seen in hall[trail[-1]])
    return found


def falling_beats(history, trail):
    """All ways to call a trail's persons at beats that fall."""
    return [
        beats
        for beats in itertools.combinations(reversed(range(len(history))), len(trail))
        if all(person in history[beat] for person, beat in zip(trail, beats))
    ]


def trails_that_go(hall, history, longest):
    """All trails of up to so many persons that go, shorter ones ahead."""
    return [trail for trail in all_trails(hall, longest) if falling_beats(history, trail)]


def without_bare(history):
    return [beat for beat in history if beat]


def is_number(thing):
    return type(thing) is int and thing >= 0


def is_slate(thing):
    return (
        type(thing) is tuple
        and all(map(is_number, thing))
        and list(thing) == sorted(set(thing))
    )


def is_rules(hall, thing):
    if type(thing) is not list or len(thing) != len(hall):
        return False
    for person, rule in enumerate(thing):
        if type(rule) is not tuple or len(rule) != 2:
            return False
        if not is_slate(rule[0]) or type(rule[1]) is not tuple:
            return False
        for triple in rule[1]:
            if type(triple) is not tuple or len(triple) != 3:
                return False
            if not all(map(is_number, triple)) or triple[0] not in hall[person]:
                return False
        if list(rule[1]) != sorted(set(rule[1])):
            return False
    return True


def version_rows(hall, history):
    """For each beat the versions ahead of it, and then the last ones."""
    rows = tree_rows(hall, history)
    told = [[0 for person in hall]]
    for ahead, behind in zip(rows, rows[1:]):
        told.append([number + (old != new) for number, old, new in zip(told[-1], ahead, behind)])
    return told


def numbered_calls(hall, history, watched=None):
    """The CALL of each tree that is within the last ones of those watched."""
    wanted = set().union(*[calls_within(tree) for tree in watched_trees(hall, history, watched)])
    counts = [0 for person in hall]
    found = {}
    for row in tree_rows(hall, history):
        for person, tree in enumerate(row):
            if tree in wanted and tree not in found:
                counts[person] += 1
                found[tree] = (person, counts[person])
    return found


def words(hall, history, watched=None):
    """For each beat the pairs (person, word)."""
    calls = numbered_calls(hall, history, watched)
    rows = tree_rows(hall, history)
    told = []
    for beat, persons in enumerate(history):
        told.append([])
        for person in persons:
            tree = rows[beat + 1][person]
            new = "needed" if tree in calls else "unread"
            told[-1].append((person, "same" if tree == rows[beat][person] else new))
    return told


def sights(hall, history, watched=None):
    """For each CALL the pairs (seen, number) of all that it sees."""
    calls = numbered_calls(hall, history, watched)
    return {
        call: [
            (seen, calls[branch][1] if branch in calls else 0)
            for seen, branch in zip(hall[call[0]], tree[2])
        ]
        for tree, call in calls.items()
    }


def bounds(hall, history, watched=None):
    """The rising list of triples (CALL, CALL, step)."""
    seen_by = sights(hall, history, watched)
    steps = []
    for call, seen_pairs in seen_by.items():
        for seen, number in seen_pairs:
            steps.append(((seen, number), call, 1))
            steps.append((call, (seen, number + 1), 0))
        steps.append((call, (call[0], call[1] + 1), 1))
    real = [row for row in steps if row[0] in seen_by and row[1] in seen_by and row[0] != row[1]]
    return [row for row in sorted(set(real)) if row[2] == 1 or (row[0], row[1], 1) not in real]


def beats_of(history):
    """The beat of each call of a history, a person's calls counted from 1."""
    found = {}
    for beat, persons in enumerate(history):
        for person in persons:
            number = sum(person in earlier for earlier in history[: beat + 1])
            found[(person, number)] = beat
    return found


def all_rows(many, longest):
    """All ROWs of so many persons and of up to so many calls, shorter ones ahead, then as lists rise."""
    return [
        list(row)
        for size in range(longest + 1)
        for row in itertools.product(range(many), repeat=size)
    ]


def row_trees(hall, longest):
    """All ROWs of up to so many calls, each with its last trees, in the order of all_rows."""
    found = []
    level = [([], tuple(("first", person) for person in range(len(hall))))]
    for size in range(longest + 1):
        found.extend(level)
        level = [
            (row + [person], called(hall, trees, person))
            for row, trees in level
            for person in range(len(hall))
        ]
    return found


def called(hall, trees, person):
    """The trees behind a call of that person alone."""
    written = ("call", person, tuple(trees[seen] for seen in hall[person]))
    return trees[:person] + (written,) + trees[person + 1 :]


def rows_by_trees(hall, longest, watched=None):
    """For each row of last trees of those watched, the ROWs of fewest calls that leave these, rising."""
    groups = {}
    for row, trees in row_trees(hall, longest):
        key = trees if watched is None else tuple(trees[person] for person in watched)
        rows = groups.setdefault(key, [])
        if not rows or len(rows[0]) == len(row):
            rows.append(row)
    return groups


def is_ring(hall, thing):
    if type(thing) is not tuple or not thing or not all(is_number(one) and one < len(hall) for one in thing):
        return False
    return len(set(thing)) == len(thing) and all(
        thing[place] in hall[thing[place - 1]] for place in range(len(thing))
    )


def drop_word(hall, row, place):
    """How a call may be dropped, by the places of the calls of its person."""
    person = row[place]
    own = [at for at, one in enumerate(row) if one == person]
    if person in hall[person]:
        return ""
    ahead = [at for at in own if at < place]
    if ahead and not [one for one in row[ahead[-1] + 1 : place] if one in hall[person]]:
        return "again"
    behind = [at for at in own if at > place]
    if behind and not [one for one in row[place + 1 : behind[0]] if person in hall[one]]:
        return "lost"
    return ""


def may_exchange(hall, row, place):
    one, other = row[place : place + 2]
    return one != other and one not in hall[other] and other not in hall[one]


def behind_deed(hall, row, deed):
    """The ROW behind a DEED, None where it can't be done."""
    row = list(row)
    word, place, *persons = deed
    if min(deed[1:]) < 0:
        return None
    if word == "drop":
        if place < len(row) and drop_word(hall, row, place):
            return row[:place] + row[place + 1 :]
    elif word == "exchange":
        if place + 1 < len(row) and may_exchange(hall, row, place):
            return row[:place] + [row[place + 1], row[place]] + row[place + 2 :]
    elif place <= len(row) and persons[0] < len(hall):
        row.insert(place, persons[0])
        if drop_word(hall, row, place):
            return row
    return None


def is_deeds(hall, one, other, thing):
    """Whether a thing is a list of DEEDs that leads the one ROW to the other."""
    if type(thing) is not list:
        return False
    row = list(one)
    for deed in thing:
        if type(deed) is not tuple or [type(part) for part in deed] not in ([str, int], [str, int, int]):
            return False
        if (deed[0], len(deed)) not in (("drop", 2), ("exchange", 2), ("put", 3)):
            return False
        row = behind_deed(hall, row, deed)
        if row is None:
            return False
    return row == list(other)


def is_late(hall, one, other, thing, watched=None):
    """Whether a thing is a list of wants, by the trees."""
    calls = numbered_calls(hall, other, watched)
    trees = {call: tree for tree, call in calls.items()}
    trees.update({(person, 0): ("first", person) for person in range(len(hall))})
    seen_by = sights(hall, other, watched)
    stands = last_trees(hall, one)
    lasts = [
        max((call for call in trees if call[0] == person), key=lambda call: call[1])
        for person in (range(len(hall)) if watched is None else watched)
    ]
    if type(thing) is not list or not thing:
        return False
    for place, want in enumerate(thing):
        if type(want) is not tuple or [type(one) for one in want] != [int, int] or want not in trees:
            return False
        if trees[want] == stands[want[0]] or (want[1] == 0) != (place == len(thing) - 1):
            return False
        if want not in (seen_by[thing[place - 1]] if place else lasts):
            return False
    return True

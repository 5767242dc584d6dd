"""Second ways, slow and close to the document's words, that the answers are held against.

A slate is told here by the tree of all that was seen: that's what rules which
tell everything write, so two slates are the same whatever the rules and the first
slates are just where their trees are. Trees double from beat to beat: they're for
small histories alone.
"""

import itertools


def tree_rows(hall, history):
    """For each beat the trees that stand ahead of it, and then the last ones."""
    rows = [[("first", person) for person in range(len(hall))]]
    for beat in history:
        rows.append(
            [
                ("call", person, tuple(rows[-1][seen] for seen in hall[person]))
                if person in beat
                else rows[-1][person]
                for person in range(len(hall))
            ]
        )
    return rows


def last_trees(hall, history):
    return tuple(tree_rows(hall, history)[-1])


def watched_trees(hall, history, watched=None):
    """The last trees of those watched."""
    trees = last_trees(hall, history)
    return trees if watched is None else tuple(trees[person] for person in watched)


def first_slates_in(tree):
    """The persons whose first slates are left in a tree."""
    if tree[0] == "first":
        return {tree[1]}
    return {person for branch in tree[2] for person in first_slates_in(branch)}


def calls_within(tree):
    """All trees of calls within a tree, itself among them."""
    if tree[0] == "first":
        return set()
    return {tree}.union(*[calls_within(branch) for branch in tree[2]])


def all_trails(hall, longest):
    """All trails of up to so many persons, shorter ones ahead, of like length as tuples rise."""
    found = []
    level = [(person,) for person in range(len(hall))]
    for size in range(longest):
        found.extend(level)
        level = sorted(trail + (seen,) for trail in level for seen in hall[trail[-1]])
    return found


def falling_beats(history, trail):
    """All ways to call a trail's persons at beats that fall."""
    return [
        beats
        for beats in itertools.combinations(reversed(range(len(history))), len(trail))
        if all(person in history[beat] for person, beat in zip(trail, beats))
    ]


def trails_that_go(hall, history, longest):
    """All trails of up to so many persons that go, shorter ones ahead."""
    return [trail for trail in all_trails(hall, longest) if falling_beats(history, trail)]


def without_bare(history):
    return [beat for beat in history if beat]


def is_number(thing):
    return type(thing) is int and thing >= 0


def is_slate(thing):
    return (
        type(thing) is tuple
        and all(map(is_number, thing))
        and list(thing) == sorted(set(thing))
    )


def is_rules(hall, thing):
    if type(thing) is not list or len(thing) != len(hall):
        return False
    for person, rule in enumerate(thing):
        if type(rule) is not tuple or len(rule) != 2:
            return False
        if not is_slate(rule[0]) or type(rule[1]) is not tuple:
            return False
        for triple in rule[1]:
            if type(triple) is not tuple or len(triple) != 3:
                return False
            if not all(map(is_number, triple)) or triple[0] not in hall[person]:
                return False
        if list(rule[1]) != sorted(set(rule[1])):
            return False
    return True


def version_rows(hall, history):
    """For each beat the versions ahead of it, and then the last ones."""
    rows = tree_rows(hall, history)
    told = [[0 for person in hall]]
    for ahead, behind in zip(rows, rows[1:]):
        told.append([number + (old != new) for number, old, new in zip(told[-1], ahead, behind)])
    return told


def numbered_calls(hall, history, watched=None):
    """The CALL of each tree that is within the last ones of those watched."""
    wanted = set().union(*[calls_within(tree) for tree in watched_trees(hall, history, watched)])
    counts = [0 for person in hall]
    found = {}
    for row in tree_rows(hall, history):
        for person, tree in enumerate(row):
            if tree in wanted and tree not in found:
                counts[person] += 1
                found[tree] = (person, counts[person])
    return found


def words(hall, history, watched=None):
    """For each beat the pairs (person, word)."""
    calls = numbered_calls(hall, history, watched)
    rows = tree_rows(hall, history)
    told = []
    for beat, persons in enumerate(history):
        told.append([])
        for person in persons:
            tree = rows[beat + 1][person]
            new = "needed" if tree in calls else "unread"
            told[-1].append((person, "same" if tree == rows[beat][person] else new))
    return told


def sights(hall, history, watched=None):
    """For each CALL the pairs (seen, number) of all that it sees."""
    calls = numbered_calls(hall, history, watched)
    return {
        call: [
            (seen, calls[branch][1] if branch in calls else 0)
            for seen, branch in zip(hall[call[0]], tree[2])
        ]
        for tree, call in calls.items()
    }


def bounds(hall, history, watched=None):
    """The rising list of triples (CALL, CALL, step)."""
    seen_by = sights(hall, history, watched)
    steps = []
    for call, seen_pairs in seen_by.items():
        for seen, number in seen_pairs:
            steps.append(((seen, number), call, 1))
            steps.append((call, (seen, number + 1), 0))
        steps.append((call, (call[0], call[1] + 1), 1))
    real = [row for row in steps if row[0] in seen_by and row[1] in seen_by and row[0] != row[1]]
    return [row for row in sorted(set(real)) if row[2] == 1 or (row[0], row[1], 1) not in real]


def beats_of(history):
    """The beat of each call of a history, a person's calls counted from 1."""
    found = {}
    for beat, persons in enumerate(history):
        for person in persons:
            number = sum(person in earlier for earlier in history[: beat + 1])
            found[(person, number)] = beat
    return found

"""Second ways, slow and close to the document's words, that the answers are held against.

A slate is told here by the tree of all that was seen: that's what rules which
tell everything write, so two slates are the same whatever the rules and the first
slates are just where their trees are. Trees double from beat to beat: they're for
small histories alone.
"""

import itertools


def tree_rows(hall, history):
    """For each beat the trees that stand ahead of it, and then the last ones."""
    rows = [[("first", person) for person in range(len(hall))]]
    for beat in history:
        rows.append(
            [
                ("call", person, tuple(rows[-1][seen] for seen in hall[person]))
                if person in beat
                else rows[-1][person]
                for person in range(len(hall))
            ]
        )
    return rows


def last_trees(hall, history):
    return tuple(tree_rows(hall, history)[-1])


def watched_trees(hall, history, watched=None):
    """The last trees of those watched."""
    trees = last_trees(hall, history)
    return trees if watched is None else tuple(trees[person] for person in watched)


def first_slates_in(tree):
    """The persons whose first slates are left in a tree."""
    if tree[0] == "first":
        return {tree[1]}
    return {person for branch in tree[2] for person in first_slates_in(branch)}


def calls_within(tree):
    """All trees of calls within a tree, itself among them."""
    if tree[0] == "first":
        return set()
    return {tree}.union(*[calls_within(branch) for branch in tree[2]])


def all_trails(hall, longest):
    """All trails of up to so many persons, shorter ones ahead, of like length as tuples rise."""
    found = []
    level = [(person,) for person in range(len(hall))]
    for size in range(longest):
        found.extend(level)
        level = sorted(trail + (seen,) for trail in level for seen in hall[trail[-1]])
    return found


def falling_beats(history, trail):
    """All ways to call a trail's persons at beats that fall."""
    return [
        beats
        for beats in itertools.combinations(reversed(range(len(history))), len(trail))
        if all(person in history[beat] for person, beat in zip(trail, beats))
    ]


def trails_that_go(hall, history, longest):
    """All trails of up to so many persons that go, shorter ones ahead."""
    return [trail for trail in all_trails(hall, longest) if falling_beats(history, trail)]


def without_bare(history):
    return [beat for beat in history if beat]


def is_number(thing):
    return type(thing) is int and thing >= 0


def is_slate(thing):
    return (
        type(thing) is tuple
        and all(map(is_number, thing))
        and list(thing) == sorted(set(thing))
    )


def is_rules(hall, thing):
    if type(thing) is not list or len(thing) != len(hall):
        return False
    for person, rule in enumerate(thing):
        if type(rule) is not tuple or len(rule) != 2:
            return False
        if not is_slate(rule[0]) or type(rule[1]) is not tuple:
            return False
        for triple in rule[1]:
            if type(triple) is not tuple or len(triple) != 3:
                return False
            if not all(map(is_number, triple)) or triple[0] not in hall[person]:
                return False
        if list(rule[1]) != sorted(set(rule[1])):
            return False
    return True

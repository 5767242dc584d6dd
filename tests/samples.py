"""Halls, histories and wrong things that the tests share."""

import copy
import itertools
import random

NOBODY = ((),)
ITSELF = ((0,),)
LINE = ((), (0,), (1,))
TRIANGLE = ((1,), (2,), (0,))
ALL_SEE_ALL = ((0, 1, 2),) * 3
WIDE = ((1, 2), (), (1,), (2, 6), (5,), (4, 7), (), (7,))


def subsets(many):
    """All rising tuples of the numbers below many."""
    return [
        row
        for size in range(many + 1)
        for row in itertools.combinations(range(many), size)
    ]


def all_halls(many):
    """All halls of that many persons."""
    return list(itertools.product(subsets(many), repeat=many))


def small_halls():
    """All halls of one, two and three persons."""
    return all_halls(1) + all_halls(2) + all_halls(3)


def all_histories(persons, beats):
    """All histories of that many persons and of up to that many beats."""
    return [
        list(history)
        for many in range(beats + 1)
        for history in itertools.product(subsets(persons), repeat=many)
    ]


def random_hall(source, many):
    return tuple(
        tuple(other for other in range(many) if source.random() < 0.3)
        for person in range(many)
    )


def random_history(source, persons, beats):
    return [
        tuple(person for person in range(persons) if source.random() < 0.4)
        for beat in range(beats)
    ]


def some_halls(count=60):
    """Halls of four to eight persons, always the same ones."""
    source = random.Random(4)
    return [random_hall(source, source.randint(4, 8)) for number in range(count)]


def some_histories(hall, count=5):
    """Histories of that hall, always the same ones."""
    source = random.Random(len(hall))
    return [
        random_history(source, len(hall), source.randint(0, 9)) for number in range(count)
    ]


def as_lists(thing):
    """The same thing with lists alone."""
    if isinstance(thing, (list, tuple)):
        return [as_lists(one) for one in thing]
    return thing


def as_tuples(thing):
    """The same thing with tuples alone."""
    if isinstance(thing, (list, tuple)):
        return tuple(as_tuples(one) for one in thing)
    return thing


PIECES = (0, 1, 2, 3, -1, 10**30, True, False, None, "", "0", (), [], (0,), [0], (True,), ((0,),), [()])


def variants(thing):
    """Things that are that one but for a single place of it."""
    for piece in PIECES:
        yield copy.deepcopy(piece)
    if not isinstance(thing, (list, tuple)):
        return
    kind = type(thing)
    other = tuple if kind is list else list
    yield other(thing)
    yield kind(reversed(thing))
    for place in range(len(thing) + 1):
        for piece in PIECES:
            yield kind([*thing[:place], copy.deepcopy(piece), *thing[place:]])
    for place in range(len(thing)):
        yield kind([*thing[:place], *thing[place + 1 :]])
        yield kind([*thing[:place], thing[place], thing[place], *thing[place + 1 :]])
        for one in variants(thing[place]):
            yield kind([*thing[:place], one, *thing[place + 1 :]])


def kinds_of(thing):
    """The kinds of a thing and of all in it."""
    if isinstance(thing, (list, tuple)):
        return (type(thing).__name__, [kinds_of(one) for one in thing])
    return type(thing).__name__


SWAP = ((1,), (0,))
SELVES = ((0, 1), (0, 1, 2), (1,))
BUSY = ((0, 3), (0, 2), (1, 4), (2, 3, 5), (3,), (0, 6), (7,), (5, 6, 7))


def small_pairs():
    """Small halls, each with histories short enough to hold all of them against each other."""
    pairs = [(hall, all_histories(1, 4)) for hall in all_halls(1)]
    pairs += [(hall, all_histories(2, 2)) for hall in all_halls(2)]
    pairs.append((SWAP, all_histories(2, 3)))
    pairs.append((((0, 1), (0,)), all_histories(2, 3)))
    pairs += [(hall, all_histories(3, 2)) for hall in (LINE, TRIANGLE, SELVES, ((), (0, 2), (1,)))]
    return pairs


def drawn_questions(count, persons=(3, 5), beats=6, seed=7):
    """Pairs of a hall and a history of it, drawn by chance but always the same ones."""
    source = random.Random(seed)
    drawn = []
    for number in range(count):
        hall = random_hall(source, source.randint(*persons))
        drawn.append((hall, random_history(source, len(hall), source.randint(0, beats))))
    return drawn


def changed_a_bit(source, hall, history):
    """That history with some calls put in or struck."""
    changed = [set(beat) for beat in history]
    for time in range(source.randint(0, 3)):
        if changed:
            source.choice(changed).symmetric_difference_update({source.randrange(len(hall))})
    return [tuple(sorted(beat)) for beat in changed]


def drawn_pairs(count, persons=(3, 5), beats=6, seed=8):
    """Triples of a hall and two histories of it that are often alike, always the same ones."""
    source = random.Random(seed)
    return [
        (hall, history, changed_a_bit(source, hall, history))
        for hall, history in drawn_questions(count, persons, beats, seed)
    ]


def full_question(seed=1):
    """A hall and a history as large as the bounds let."""
    source = random.Random(seed)
    hall = random_hall(source, 8)
    return hall, [tuple(sorted(source.sample(range(8), 5))) for beat in range(60)]


def drawn_slate(source, most=4):
    return tuple(sorted({source.randint(0, 5) for number in range(source.randint(0, most))}))


def drawn_rules(source, hall):
    """RULES of that hall over the marks 0 to 5."""
    rules = []
    for row in hall:
        triples = set()
        if row:
            for number in range(source.randint(0, 6)):
                triples.add((source.choice(row), source.randint(0, 5), source.randint(0, 5)))
        rules.append((drawn_slate(source, 2), tuple(sorted(triples))))
    return rules


def watched_choices(hall):
    """All, none, each by itself, and all but the first."""
    persons = list(range(len(hall)))
    return [None, [], persons, persons[1:]] + [[person] for person in persons]


def deeper_pairs():
    """Small halls, each with all its histories of some more beats."""
    pairs = [(hall, all_histories(1, 5)) for hall in all_halls(1)]
    pairs += [(hall, all_histories(2, 3)) for hall in all_halls(2)]
    pairs += [(hall, all_histories(3, 2)) for hall in (LINE, TRIANGLE, SELVES, ((), (0, 2), (1,)))]
    return pairs


def small_questions(count, pairs):
    """Each hall of these pairs with each of its histories, and so many larger ones."""
    return [(hall, history) for hall, histories in pairs for history in histories] + drawn_questions(count)


def small_comparisons(count, about):
    """Triples of a hall and two histories: each small one with about so many others, and larger ones."""
    small = [
        (hall, one, other)
        for hall, histories in small_pairs()
        for one in histories
        for other in histories[:: 1 + len(histories) // about]
    ]
    return small + drawn_pairs(count)

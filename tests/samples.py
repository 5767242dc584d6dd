"""Halls, histories and wrong things that the tests share."""

import copy
import itertools
import random

NOBODY = ((),)
ITSELF = ((0,),)
LINE = ((), (0,), (1,))
TRIANGLE = ((1,), (2,), (0,))
ALL_SEE_ALL = ((0, 1, 2),) * 3
WIDE = ((1, 2), (), (1,), (2, 6), (5,), (4, 7), (), (7,))


def subsets(many):
    """All rising tuples of the numbers below many."""
    return [
        row
        for size in range(many + 1)
        for row in itertools.combinations(range(many), size)
    ]


def all_halls(many):
    """All halls of that many persons."""
    return list(itertools.product(subsets(many), repeat=many))


def small_halls():
    """All halls of one, two and three persons."""
    return all_halls(1) + all_halls(2) + all_halls(3)


def all_histories(persons, beats):
    """All histories of that many persons and of up to that many beats."""
    return [
        list(history)
        for many in range(beats + 1)
        for history in itertools.product(subsets(persons), repeat=many)
    ]


def random_hall(source, many):
    return tuple(
        tuple(other for other in range(many) if source.random() < 0.3)
        for person in range(many)
    )


def random_history(source, persons, beats):
    return [
        tuple(person for person in range(persons) if source.random() < 0.4)
        for beat in range(beats)
    ]


def some_halls(count=60):
    """Halls of four to eight persons, always the same ones."""
    source = random.Random(4)
    return [random_hall(source, source.randint(4, 8)) for number in range(count)]


def some_histories(hall, count=5):
    """Histories of that hall, always the same ones."""
    source = random.Random(len(hall))
    return [
        random_history(source, len(hall), source.randint(0, 9)) for number in range(count)
    ]


def as_lists(thing):
    """The same thing with lists alone."""
    if isinstance(thing, (list, tuple)):
        return [as_lists(one) for one in thing]
    return thing


def as_tuples(thing):
    """The same thing with tuples alone."""
    if isinstance(thing, (list, tuple)):
        return tuple(as_tuples(one) for one in thing)
    return thing


PIECES = (0, 1, 2, 3, -1, 10**30, True, False, None, "", "0", (), [], (0,), [0], (True,), ((0,),), [()])


def variants(thing):
    """Things that are that one but for a single place of it."""
    for piece in PIECES:
        yield copy.deepcopy(piece)
    if not isinstance(thing, (list, tuple)):
        return
    kind = type(thing)
    other = tuple if kind is list else list
    yield other(thing)
    yield kind(reversed(thing))
    for place in range(len(thing) + 1):
        for piece in PIECES:
            yield kind([*thing[:place], copy.deepcopy(piece), *thing[place:]])
    for place in range(len(thing)):
        yield kind([*thing[:place], *thing[place + 1 :]])
        yield kind([*thing[:place], thing[place], thing[place], *thing[place + 1 :]])
        for one in variants(thing[place]):
            yield kind([*thing[:place], one, *thing[place + 1 :]])


def kinds_of(thing):
    """The kinds of a thing and of all in it."""
    if isinstance(thing, (list, tuple)):
        return (type(thing).__name__, [kinds_of(one) for one in thing])
    return type(thing).__name__

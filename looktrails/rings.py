"""Rings of sight, and the order of those who come to none."""

from looktrails.kinds import is_number_below


def is_ring(hall, thing):
    """Whether a thing is a RING of that hall."""
    if not isinstance(thing, tuple) or len(thing) == 0:
        return False
    if not all([is_number_below(one, len(hall)) for one in thing]):
        return False
    if len(set(thing)) < len(thing):
        return False
    following = thing[1:] + thing[:1]
    return all([seen in hall[person] for person, seen in zip(thing, following)])


def ring_among(hall, persons):
    """A RING of some of these persons, None where there's none."""
    done = placed(hall, persons)
    left = [person for person in persons if person not in done]
    if not left:
        return None
    # Each one left sees another one left, so this walk comes back to itself.
    walk = []
    person = left[0]
    while person not in walk:
        walk.append(person)
        person = first_seen(hall, person, left)
    return tuple(walk[walk.index(person):])


def ringless(hall):
    """The rising list of those from whom no person of a RING is come to."""
    return sorted(seen_first(hall))


def seen_first(hall):
    """The list of the ringless, each behind all that it sees, the first as lists rise."""
    return placed(hall, list(range(len(hall))))


def placed(hall, persons):
    """These persons, each behind all of them that it sees, as long as there's one to place.

    The least one that can be placed goes next, so the list is the first as lists
    rise. Those left out are those from whom a ring among these persons is come to.
    """
    left = {person: True for person in persons}
    order = []
    person = first_free(hall, left)
    while person is not None:
        order.append(person)
        del left[person]
        person = first_free(hall, left)
    return order


def first_free(hall, left):
    """The first of those left who sees none of them, None where there's none."""
    for person in left:
        if first_seen(hall, person, left) is None:
            return person
    return None


def first_seen(hall, person, among):
    """The first of those among whom that person sees, None where there's none."""
    for seen in hall[person]:
        if seen in among:
            return seen
    return None

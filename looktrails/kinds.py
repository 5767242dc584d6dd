"""What several files ask of plain things: numbers, rising tuples, copies."""


def is_number(thing):
    """Whether a thing is a whole number from 0 up, and neither True nor False."""
    return isinstance(thing, int) and not isinstance(thing, bool) and thing >= 0


def is_number_below(thing, many):
    """Whether a thing is one of the numbers from 0 to below many."""
    return is_number(thing) and thing < many


def rises(things):
    """Whether each of these numbers or tuples but the first is above the one ahead of it."""
    return all([low < high for low, high in zip(things, things[1:])])


def is_rising(thing):
    """Whether a thing is a rising tuple of numbers from 0 up."""
    if not isinstance(thing, tuple):
        return False
    # Kinds come first: a number and a text can't be compared.
    return all([is_number(one) for one in thing]) and rises(thing)


def is_rising_below(thing, many):
    """Whether a thing is a rising tuple of numbers from 0 to below many."""
    return is_rising(thing) and all([one < many for one in thing])


def watched_ones(hall, watched):
    """The rising list of those watched, all persons of the hall where that's None."""
    if watched is None:
        return list(range(len(hall)))
    return list(watched)


def own_copy(thing):
    """The same thing, sharing no list with the one handed in."""
    if isinstance(thing, list):
        return [own_copy(one) for one in thing]
    if isinstance(thing, tuple):
        return tuple([own_copy(one) for one in thing])
    return thing

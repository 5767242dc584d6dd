"""What told rules write: marks that are passed on, and sums by a rest."""

from looktrails.kinds import is_number, is_rising, rises


def is_rules(hall, thing):
    """Whether a thing is RULES of that hall."""
    if not isinstance(thing, list) or len(thing) != len(hall):
        return False
    return all([is_rule(row, rule) for row, rule in zip(hall, thing)])


def is_rule(row, thing):
    """Whether a thing is the rule of one who sees those of that row."""
    if not isinstance(thing, tuple) or len(thing) != 2:
        return False
    always, pairs = thing
    if not is_slate(always) or not isinstance(pairs, tuple):
        return False
    # Kinds come first: what isn't made of numbers can't be compared.
    return all([is_triple(row, triple) for triple in pairs]) and rises(pairs)


def is_triple(row, thing):
    """Whether a thing is a triple (seen, mark, written) for one who sees those of that row."""
    if not isinstance(thing, tuple) or len(thing) != 3:
        return False
    return all([is_number(one) for one in thing]) and thing[0] in row


def is_slate(thing):
    """Whether a thing is a SLATE of marks."""
    return is_rising(thing)


def are_slates(hall, thing):
    """Whether a thing is a list of a SLATE for each person."""
    if not isinstance(thing, list) or len(thing) != len(hall):
        return False
    return all([is_slate(slate) for slate in thing])


def run_marks(hall, history, rules, first):
    """The list of the last slates that these RULES leave, first ones handed in."""
    # Kept as keys, marks are found at once on a slate however full it is.
    slates = [{mark: True for mark in slate} for slate in first]
    for beat in history:
        written = [(person, marks_written(rules[person], slates)) for person in beat]
        for person, slate in written:
            slates[person] = slate
    return [tuple(sorted(slate)) for slate in slates]


def marks_written(rule, slates):
    """The marks, as keys, that this rule writes of these slates."""
    always, pairs = rule
    slate = {mark: True for mark in always}
    for seen, mark, written in pairs:
        if mark in slates[seen]:
            slate[written] = True
    return slate


def run_sums(hall, history, sums, first, *, rest):
    """The list of the last numbers that these SUMS leave, first ones handed in."""
    slates = list(first)
    for beat in history:
        written = [(person, sum_written(hall[person], sums[person], slates, rest)) for person in beat]
        for person, number in written:
            slates[person] = number
    return slates


def sum_written(row, rule, slates, rest):
    """The number that this rule writes for one who sees those of that row."""
    add, weights = rule
    parts = [weight * slates[seen] for seen, weight in zip(row, weights)]
    return (add + sum(parts)) % rest

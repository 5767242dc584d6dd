"""What point [2] promises of every function, checked of one question."""

import copy

import samples


def lists_in(thing):
    """All lists in a thing, itself among them, at any depth."""
    if not isinstance(thing, (list, tuple)):
        return []
    inner = [one for part in thing for one in lists_in(part)]
    return [thing] + inner if isinstance(thing, list) else inner


def spoil(thing):
    """Changes every list in a thing."""
    for one in lists_in(thing):
        one.append("spoilt")


def handed_as(form, named):
    """The same arguments in another form; what is asked of as a thing stays as it is."""
    return {name: one if name == "thing" else form(one) for name, one in named.items()}


def check_question(case, function, named, by_name_alone=("watched", "ahead", "long", "rest")):
    """Asks a question in all ways that it may be asked in, and spoils what is told.

    named has the arguments by name, in the order of their places.
    """
    places = [one for name, one in named.items() if name not in by_name_alone]
    others = {name: one for name, one in named.items() if name in by_name_alone}
    before = repr(named)
    told = function(*places, **others)
    right = copy.deepcopy(told)
    for form in (copy.deepcopy, samples.as_lists, samples.as_tuples):
        handed = handed_as(form, named)
        again = function(**dict(reversed(handed.items())))
        case.assertEqual(again, right)
        case.assertEqual(samples.kinds_of(again), samples.kinds_of(right))
        spoil([one for name, one in handed.items() if name != "thing"])
        case.assertEqual(again, right, "a change behind is seen")
    case.assertEqual(repr(named), before, "what was handed in is changed")
    known = lists_in(told)
    case.assertEqual(len({id(one) for one in known}), len(known), "one list told twice")
    mine = {id(one) for one in lists_in(list(named.values()))}
    case.assertFalse(mine & {id(one) for one in known}, "a list handed in is told")
    spoil(told)
    case.assertEqual(repr(named), before, "what was handed in changes with what is told")
    case.assertEqual(function(*places, **others), right, "an answer changes another one")
    return right

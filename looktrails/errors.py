"""The refusals. Each has as its field what it's made with.

A refusal may bear anything that was handed in, so it keeps a copy of its own:
a list that is changed behind isn't seen to change in it.
"""

from looktrails.kinds import own_copy


class BadRow(ValueError):
    """The row of a text, from 0, that isn't written as it has to be."""

    def __init__(self, row):
        self.row = own_copy(row)


class BadText(ValueError):
    """The beat of a history's text, from 0, that isn't written as it has to be."""

    def __init__(self, beat):
        self.beat = own_copy(beat)


class BadDeed(ValueError):
    """The number of the deed, from 0, that is none or can't be done."""

    def __init__(self, number):
        self.number = own_copy(number)


class Unlike(ValueError):
    """Two houses of unlike halls."""

    def __init__(self):
        ValueError.__init__(self)


class NoBeat(LookupError):
    """What was asked for as a beat, and is none that has been."""

    def __init__(self, beat):
        self.beat = own_copy(beat)


class NoPerson(LookupError):
    """What was asked for as a person, and is none of the hall."""

    def __init__(self, person):
        self.person = own_copy(person)


class NoRow(LookupError):
    """The number of a row beyond the last one."""

    def __init__(self, number):
        self.number = own_copy(number)


class Called(RuntimeError):
    """The person who is called in that beat already."""

    def __init__(self, person):
        self.person = own_copy(person)


class NotCalled(RuntimeError):
    """The person who isn't called in that beat."""

    def __init__(self, person):
        self.person = own_copy(person)


class Endless(RuntimeError):
    """A ring of sight, in a hall that must have none."""

    def __init__(self, ring):
        self.ring = own_copy(ring)


class TooMany(OverflowError):
    """How many there are, or may be at most, where that's too many to tell."""

    def __init__(self, many):
        self.many = own_copy(many)

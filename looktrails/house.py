"""A house: a history of a hall that is kept by deeds, which can be undone."""

from looktrails.alike import are_alike, unlike_persons
from looktrails.errors import BadDeed, Called, NoBeat, NoPerson, NotCalled, Unlike
from looktrails.hangs import hangs_on
from looktrails.kinds import is_number_below
from looktrails.least import earliest
from looktrails.versions import version_at

# How many things each deed of a do has, its word among them.
SIZES = {"call": 2, "late": 3, "strike": 3, "cut": 1}


class House:
    """A history of a hall, of no beats at first."""

    def __init__(self, hall):
        self.floor = tuple([tuple(row) for row in hall])
        # A history is never changed, only put for another one, so those kept here may be shared.
        self.beats = []
        self.former = []
        self.entries = []

    def call(self, persons):
        """A BEAT more, behind all: the rising list of those of whom a new version is written."""
        self.entries.append(("in", "call"))
        try:
            return self.go_to(self.beats + [tuple(persons)])
        finally:
            self.entries.append(("out", "call"))

    def late(self, beat, person):
        """A call more in a beat that has been: those whose last slates may be otherwise by it."""
        self.entries.append(("in", "late"))
        try:
            self.check_place(beat, person)
            if person in self.beats[beat]:
                raise Called(person)
            return self.go_to(with_beat(self.beats, beat, sorted([*self.beats[beat], person])))
        finally:
            self.entries.append(("out", "late"))

    def strike(self, beat, person):
        """A call less, the beat stays: those whose last slates may be otherwise by it."""
        self.entries.append(("in", "strike"))
        try:
            self.check_place(beat, person)
            if person not in self.beats[beat]:
                raise NotCalled(person)
            left = [one for one in self.beats[beat] if one != person]
            return self.go_to(with_beat(self.beats, beat, left))
        finally:
            self.entries.append(("out", "strike"))

    def cut(self):
        """The history is its earliest laying from now on."""
        self.entries.append(("in", "cut"))
        try:
            self.go_to(earliest(self.floor, self.beats))
        finally:
            self.entries.append(("out", "cut"))

    def undo(self):
        """Whether there was a deed to undo; it is as if it had never been."""
        self.entries.append(("in", "undo"))
        try:
            if not self.former:
                return False
            self.beats = self.former.pop()
            return True
        finally:
            self.entries.append(("out", "undo"))

    def do(self, deeds, *, whole=True):
        """The list of what these deeds tell, done one by one; BadDeed ahead of all."""
        for number, deed in enumerate(deeds):
            if not is_deed(deed):
                raise BadDeed(number)
        beats, former = self.beats, list(self.former)
        self.entries.append(("in", "do"))
        try:
            return [self.do_one(deed) for deed in deeds]
        except (NoBeat, NoPerson, Called, NotCalled):
            if whole:
                self.beats, self.former = beats, former
            raise
        finally:
            self.entries.append(("out", "do"))

    def do_one(self, deed):
        """Does one deed of a do, and tells what it tells."""
        if deed[0] == "call":
            return self.call(deed[1])
        if deed[0] == "late":
            return self.late(deed[1], deed[2])
        if deed[0] == "strike":
            return self.strike(deed[1], deed[2])
        return self.cut()

    def go_to(self, history):
        """Puts a history for the one that was, and tells whose last slates are otherwise then."""
        unlike = unlike_persons(self.floor, self.beats, history)
        self.former.append(self.beats)
        self.beats = history
        return unlike

    def check_place(self, beat, person):
        """NoBeat of no beat that has been, then NoPerson of no person of the hall."""
        if not is_number_below(beat, len(self.beats)):
            raise NoBeat(beat)
        self.check_person(person)

    def check_person(self, person):
        """NoPerson of no person of the hall."""
        if not is_number_below(person, len(self.floor)):
            raise NoPerson(person)

    def hall(self):
        """The HALL."""
        return self.floor

    def history(self):
        """The HISTORY as it is now."""
        return list(self.beats)

    def deeds(self):
        """How many deeds can be undone."""
        return len(self.former)

    def version(self, person):
        """The number of that person's last version; NoPerson."""
        self.check_person(person)
        return version_at(self.floor, self.beats, person)

    def hangs(self, person):
        """The rising list of those on whose first slates that person's last one hangs; NoPerson."""
        self.check_person(person)
        return hangs_on(self.floor, self.beats, person)

    def least(self, *, watched=None):
        """The earliest laying, for those watched."""
        return earliest(self.floor, self.beats, watched=watched)

    def alike(self, other, *, watched=None):
        """Whether this history and another House's are alike for those watched; Unlike."""
        if self.floor != other.floor:
            raise Unlike()
        return are_alike(self.floor, self.beats, other.beats, watched=watched)

    def twin(self):
        """A House of its own, the same, but with nothing in its log."""
        other = House(self.floor)
        other.beats = list(self.beats)
        other.former = list(self.former)
        return other

    def log(self):
        """The list of ("in", word) and ("out", word) of each deed, do and undo."""
        return list(self.entries)

    def __len__(self):
        return len(self.beats)

    def __eq__(self, other):
        return isinstance(other, House) and self.floor == other.floor and self.beats == other.beats

    def __repr__(self):
        return f"House({len(self.floor)} persons, {len(self.beats)} beats)"


def with_beat(history, beat, persons):
    """The HISTORY with these persons for those of that beat."""
    return history[:beat] + [tuple(persons)] + history[beat + 1:]


def is_deed(thing):
    """Whether a thing is a deed of a do by its word and how many things it has."""
    if not isinstance(thing, (list, tuple)) or len(thing) == 0 or not isinstance(thing[0], str):
        return False
    return thing[0] in SIZES and len(thing) == SIZES[thing[0]]

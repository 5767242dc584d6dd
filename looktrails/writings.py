"""What stands on slates, told apart whatever the rules and the first slates are.

A writing is a number. A person's own number stands for its first slate. What a
call writes is told by its person and by the writings that it looks at: where
these are the same it's the same writing, else another one.
"""


class Book:
    """The writings met with so far, in one history of a hall or in several."""

    def __init__(self, hall):
        self.known = {}
        # Of each writing those that its call looked at, None of a first slate.
        self.looks = [None for person in hall]

    def written(self, person, looked):
        """The writing of a person who looks at these writings, a tuple."""
        key = (person, looked)
        if key not in self.known:
            self.known[key] = len(self.looks)
            self.looks.append(looked)
        return self.known[key]

    def is_first(self, writing):
        """Whether a writing is a first slate."""
        return self.looks[writing] is None


def slate_rows(book, hall, history):
    """For each beat the writings ahead of it, person by person, and then the last ones."""
    slates = list(range(len(hall)))
    rows = [slates]
    for beat in history:
        # All look before anyone writes, so the old row stays as it is.
        following = list(slates)
        for person in beat:
            looked = tuple([slates[seen] for seen in hall[person]])
            following[person] = book.written(person, looked)
        rows.append(following)
        slates = following
    return rows


def last_slates(book, hall, history):
    """The writings behind all beats, person by person."""
    return slate_rows(book, hall, history)[-1]


def looks_along(book, hall, person, writing):
    """The pairs (seen, writing) that the call of that writing looked at, none of a first slate."""
    if book.is_first(writing):
        return []
    return list(zip(hall[person], book.looks[writing]))

"""The versions of one person that two histories have in common."""

from looktrails.writings import Book, slate_rows


def common(hall, one, other, person):
    """The rising list of pairs (version in one, version in other) that are made alike."""
    book = Book(hall)
    mine = versions_of(book, hall, one, person)
    yours = versions_of(book, hall, other, person)
    return sorted([(mine[writing], yours[writing]) for writing in mine if writing in yours])


def versions_of(book, hall, history, person):
    """The number of each of that person's versions, by what is written there."""
    numbers = {}
    for slates in slate_rows(book, hall, history):
        # No version comes back once it's gone, so each is met in one go.
        if slates[person] not in numbers:
            numbers[slates[person]] = len(numbers)
    return numbers

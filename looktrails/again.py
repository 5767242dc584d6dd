"""A history told again and again, and after how many goings slates settle."""

from looktrails.writings import Book, slate_rows


def goings(history, many):
    """The HISTORY so many times, one behind the other."""
    return [tuple(beat) for going in range(many) for beat in history]


def settles(hall, history):
    """For each person after how many goings its slate stays the same, None where it never does."""
    # A slate changes with each going till it stays. It stays once all stay that it hangs on
    # from the going ahead, so that takes no more goings than there are persons.
    rows = slate_rows(Book(hall), hall, goings(history, len(hall) + 1))
    ends = [rows[going * len(history)] for going in range(len(hall) + 2)]
    return [first_stay([slates[person] for slates in ends]) for person in range(len(hall))]


def first_stay(writings):
    """The first place whose writing is the next one's, too, None where there's none."""
    for place, (now, following) in enumerate(zip(writings, writings[1:])):
        if now == following:
            return place
    return None

"""What a last slate hangs on: the first slates that are left in it."""

from looktrails.trails import dates, is_trail
from looktrails.writings import Book, last_slates, looks_along


def hangs_on(hall, history, person):
    """The rising list of those on whose first slates that person's last one hangs."""
    return sorted(hanging_trails(hall, history, person))


def hanging_trail(hall, history, person, other):
    """The first of the shortest TRAILs by which person's slate hangs on other's, or None."""
    return hanging_trails(hall, history, person).get(other)


def hanging_trails(hall, history, person):
    """For each one that person's slate hangs on, the first of the shortest such TRAILs."""
    book = Book(hall)
    start = last_slates(book, hall, history)[person]
    queue = [((person,), start)]
    met = {start: True}
    place = 0
    # Shorter trails, and of those the first as tuples rise, come first here, so
    # the trail by which a writing is first met is the one to keep.
    while place < len(queue):
        trail, writing = queue[place]
        for seen, looked in looks_along(book, hall, trail[-1], writing):
            if looked not in met:
                met[looked] = True
                queue.append((trail + (seen,), looked))
        place += 1
    return {trail[-1]: trail for trail, writing in queue if book.is_first(writing)}


def shows_hanging(hall, history, person, other, thing):
    """Whether a thing is a TRAIL, however long, by which person's slate hangs on other's."""
    if not is_trail(hall, thing) or thing[0] != person or thing[-1] != other:
        return False
    return len(dates(hall, history, thing)) == len(thing) - 1

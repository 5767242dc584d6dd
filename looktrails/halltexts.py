"""Texts of halls and histories, written and read."""

from looktrails.errors import BadRow, BadText
from looktrails.kinds import rises

MOST_PERSONS = 8


def hall_text(hall):
    """A hall's text: a row for each person."""
    rows = [f"{person} sees {persons_text(row)}" for person, row in enumerate(hall)]
    return "\n".join(rows)


def history_text(history):
    """A history's text, the bare text of no beats."""
    return " / ".join([persons_text(beat) for beat in history])


def persons_text(persons):
    """The persons parted by blanks, `-` of none."""
    if len(persons) == 0:
        return "-"
    return " ".join([str(person) for person in persons])


def hall_in(text):
    """The HALL whose text this is, of 1 to 8 persons; else BadRow."""
    rows = text.split("\n")
    hall = []
    for number, row in enumerate(rows):
        seen = seen_in(row, number)
        if seen is None:
            raise BadRow(number)
        hall.append(seen)
    # Who is there is known only behind the last row.
    for number, seen in enumerate(hall):
        if any([person >= len(hall) for person in seen]):
            raise BadRow(number)
    return tuple(hall)


def seen_in(row, number):
    """Those whom the person of that number sees by this row of a text, else None."""
    start = f"{number} sees "
    if number >= MOST_PERSONS or not row.startswith(start):
        return None
    return persons_in(row.removeprefix(start), MOST_PERSONS)


def history_in(hall, text):
    """The HISTORY of that hall whose text this is; else BadText."""
    if text == "":
        return []
    history = []
    for number, part in enumerate(text.split(" / ")):
        beat = persons_in(part, len(hall))
        if beat is None:
            raise BadText(number)
        history.append(beat)
    return history


def persons_in(text, many):
    """The rising tuple of persons below many whose text this is, else None."""
    if text == "-":
        return ()
    persons = numbers_in(text.split(" "), many)
    return tuple(persons) if persons is not None and rises(persons) else None


def numbers_in(words, many):
    """The list of the numbers below many that these words are, else None."""
    # Looked up by its figures, no other writing of a number can pass for it.
    known = {str(number): number for number in range(many)}
    if not all([word in known for word in words]):
        return None
    return [known[word] for word in words]

"""What is promised over [14] to [17] together: [1] (d), (e), (f), (h), and texts written and read again."""

import itertools
import random
import unittest

import samples
import slow
from looktrails.again import goings, settles
from looktrails.alike import are_alike, parting_trail
from looktrails.drops import deeds_between, drop_word, led, may_exchange
from looktrails.further import further, shows_late
from looktrails.halls import beside, calls_in, turned, turned_hall
from looktrails.halltexts import hall_in, hall_text, history_in, history_text
from looktrails.least import earliest, fewest
from looktrails.onebyone import as_history, one_by_one, row_at, rows_many, shows_ring
from looktrails.order import needed


def questions():
    return samples.small_questions(80, samples.small_pairs())


def few_needed(pairs):
    return [(hall, history) for hall, history in pairs if len(needed(hall, history)) <= 12]


def rows_drawn(count, calls=10, seed=31):
    source = random.Random(seed)
    drawn = []
    for number in range(count):
        hall = samples.random_hall(source, source.randint(2, 6))
        drawn.append((hall, [source.randrange(len(hall)) for call in range(source.randint(0, calls))]))
    return drawn


def renamed_hall(hall, names):
    """The hall whose person names[p] sees those that p sees here."""
    rows = {names[person]: tuple(sorted(names[seen] for seen in row)) for person, row in enumerate(hall)}
    return tuple(rows[person] for person in range(len(hall)))


def renamed(history, names):
    return [tuple(sorted(names[person] for person in beat)) for beat in history]


def some_names(hall):
    """The persons the other way about, and each one's number one more."""
    many = len(hall)
    return [list(reversed(range(many))), [(person + 1) % many for person in range(many)]]


class TurnedAbout(unittest.TestCase):
    def test_again_is_lost(self):
        """What may be dropped as again may be dropped as lost there, though drop_word tells again first."""
        small = [(hall, row) for hall in samples.all_halls(2) for row in slow.all_rows(2, 5)]
        small += [(hall, row) for hall in samples.all_halls(3)[::9] for row in slow.all_rows(3, 4)]
        for hall, row in small + rows_drawn(200):
            back, there = turned_hall(hall), row[::-1]
            for place in range(len(row)):
                mine, yours = drop_word(hall, row, place), drop_word(back, there, len(row) - 1 - place)
                self.assertEqual(mine == "", yours == "")
                if mine == "lost":
                    self.assertEqual(yours, "again")
                if yours == "lost":
                    self.assertEqual(mine, "again")

    def test_what_may_be_exchanged(self):
        for hall, row in rows_drawn(200):
            for place in range(len(row) - 1):
                there = may_exchange(turned_hall(hall), row[::-1], len(row) - 2 - place)
                self.assertIs(may_exchange(hall, row, place), there)

    def test_rows_are_as_many(self):
        for hall, history in few_needed(questions()):
            self.assertEqual(rows_many(hall, history), rows_many(turned_hall(hall), turned(history)))

    def test_a_row_or_a_ring(self):
        for hall, history in questions():
            there = one_by_one(turned_hall(hall), turned(history))
            here = one_by_one(hall, history)
            self.assertEqual(here[0], there[0])
            if here[0] == "row":
                self.assertEqual(sorted(here[1]), sorted(there[1]))

    def test_the_same_rows(self):
        for hall, history in few_needed(samples.drawn_questions(60, (2, 4), 3)):
            many = rows_many(hall, history)
            if many <= 200:
                here = [row_at(hall, history, number) for number in range(many)]
                back = turned_hall(hall), turned(history)
                self.assertEqual(sorted(row_at(*back, number)[::-1] for number in range(many)), here)

    def test_deeds_lead_there_too(self):
        for hall, row in rows_drawn(60):
            for place in range(len(row)):
                other = row[:place] + row[place + 1 :]
                there = deeds_between(turned_hall(hall), row[::-1], other[::-1])
                self.assertEqual(deeds_between(hall, row, other) is None, there is None)


class RowsOrRings(unittest.TestCase):
    def test_a_row_that_is_alike_or_a_ring_that_is_shown(self):
        for hall, history in questions():
            told = one_by_one(hall, history)
            if told[0] == "row":
                self.assertIs(are_alike(hall, history, as_history(told[1])), True)
                self.assertEqual(len(told[1]), fewest(hall, history)[0])
            else:
                self.assertIs(shows_ring(hall, history, told), True)

    def test_alike_histories_have_one_row(self):
        for hall, one, other in samples.small_comparisons(200, 12):
            mine, yours = one_by_one(hall, one), one_by_one(hall, other)
            if are_alike(hall, one, other):
                self.assertEqual(mine[:2], yours[:2])
                self.assertIs(shows_ring(hall, other, mine), mine[0] == "ring")
            elif mine[0] == "row":
                self.assertNotEqual(mine, yours)

    def test_a_row_that_is_told_tells_itself(self):
        for hall, history in questions():
            told = one_by_one(hall, history)
            if told[0] == "row":
                self.assertEqual(one_by_one(hall, as_history(told[1])), told)


class DeedsOrTrails(unittest.TestCase):
    def test_deeds_or_a_trail_that_parts(self):
        for hall in samples.all_halls(2) + [samples.LINE, samples.TRIANGLE, samples.SELVES]:
            rows = slow.all_rows(len(hall), 3)
            for one, other in itertools.product(rows, rows):
                deeds = deeds_between(hall, one, other)
                trail = parting_trail(hall, as_history(one), as_history(other))
                self.assertNotEqual(deeds is None, trail is None)
                if deeds is not None:
                    self.assertEqual(led(hall, one, deeds), other)


class FurtherOrLate(unittest.TestCase):
    def test_it_goes_or_wants_show_that_it_is_too_late(self):
        for hall, one, other in samples.small_comparisons(200, 8):
            for watched in (None, [0]):
                word, told = further(hall, one, other, watched=watched)
                if word == "goes":
                    self.assertIs(are_alike(hall, one + told, other, watched=watched), True)
                else:
                    self.assertIs(shows_late(hall, one, other, told, watched=watched), True)

    def test_alike_ones_may_be_put_for_one_another(self):
        for hall, one, other in samples.small_comparisons(100, 8):
            told = further(hall, one, other)
            self.assertEqual(further(hall, earliest(hall, one), other)[0], told[0])
            if told[0] == "goes":
                self.assertEqual(further(hall, earliest(hall, one), earliest(hall, other)), told)


class HallsBesideOneAnother(unittest.TestCase):
    def drawn(self, count):
        told = samples.drawn_pairs(count, (1, 3), 3)
        for (hall, one, other), (next_hall, next_one, next_other) in zip(told, told[1:]):
            many = len(hall)
            moved = [[tuple(many + who for who in beat) for beat in history] for history in (next_one, next_other)]
            yield beside(hall, next_hall), (hall, one, other), (next_hall, next_one, next_other), moved

    def test_rows_are_shuffled_into_one_another(self):
        for both, (hall, one, other), (next_hall, next_one, next_other), moved in self.drawn(60):
            mine, yours = needed(hall, one), needed(next_hall, next_one)
            if len(mine) + len(yours) <= 12:
                ways = rows_many(hall, one) * rows_many(next_hall, next_one)
                for place in range(len(mine)):
                    ways = ways * (len(yours) + place + 1) // (place + 1)
                self.assertEqual(rows_many(both, one + moved[0]), ways)

    def test_what_goes_further(self):
        for both, (hall, one, other), (next_hall, next_one, next_other), moved in self.drawn(150):
            first, second = further(hall, one, other), further(next_hall, next_one, next_other)
            word, told = further(both, one + moved[0], other + moved[1])
            self.assertEqual(word, "goes" if first[0] == second[0] == "goes" else "late")
            if word == "goes":
                self.assertEqual(calls_in(told), calls_in(first[1]) + calls_in(second[1]))

    def test_what_settles(self):
        for both, (hall, one, other), (next_hall, next_one, next_other), moved in self.drawn(60):
            told = settles(both, one + moved[0] or [()])
            self.assertEqual(told, settles(hall, one or [()]) + settles(next_hall, next_one or [()]))


class PersonsNumberedOtherwise(unittest.TestCase):
    def test_rows(self):
        for hall, history in few_needed(samples.drawn_questions(100, (2, 5), 4)):
            for names in some_names(hall):
                there = renamed_hall(hall, names), renamed(history, names)
                self.assertEqual(rows_many(*there), rows_many(hall, history))
                self.assertEqual(one_by_one(*there)[0], one_by_one(hall, history)[0])

    def test_drops_and_deeds(self):
        for hall, row in rows_drawn(60):
            for names in some_names(hall):
                there, other = renamed_hall(hall, names), [names[person] for person in row]
                for place in range(len(row)):
                    self.assertEqual(drop_word(there, other, place), drop_word(hall, row, place))
                for place in range(len(row) - 1):
                    self.assertIs(may_exchange(there, other, place), may_exchange(hall, row, place))

    def test_further_histories(self):
        for hall, one, other in samples.drawn_pairs(100, (2, 5), 4):
            word, told = further(hall, one, other)
            for names in some_names(hall):
                there = further(renamed_hall(hall, names), renamed(one, names), renamed(other, names))
                self.assertEqual(there[0], word)
                if word == "goes":
                    self.assertEqual(there[1], renamed(told, names))

    def test_what_settles(self):
        for hall, history in samples.drawn_questions(80, (2, 6), 4):
            told = settles(hall, history or [()])
            for names in some_names(hall):
                there = settles(renamed_hall(hall, names), renamed(history or [()], names))
                self.assertEqual([there[names[person]] for person in range(len(hall))], told)


class Texts(unittest.TestCase):
    def test_what_is_told_is_written_and_read_again(self):
        for hall, one, other in samples.drawn_pairs(100, (2, 8), 6):
            self.assertEqual(hall_in(hall_text(hall)), hall)
            told = [earliest(hall, one), goings(one, 6), further(hall, [], other)[1]]
            told.append(as_history([person for beat in one for person in beat]))
            for history in told:
                self.assertEqual(history_in(hall, history_text(history)), history)


if __name__ == "__main__":
    unittest.main()

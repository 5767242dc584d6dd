"""drops.py: point [15], and [1] (e)."""

import copy
import random
import unittest

import asking
import samples
import slow
from looktrails.alike import are_alike, parting_trail
from looktrails.drops import deeds_between, drop_word, led, may_exchange, shows_deeds
from looktrails.errors import BadDeed
from looktrails.onebyone import as_history, one_by_one
from looktrails.order import needed
from looktrails.versions import words

FREE = ((), (), ())
PIECES = (("drop", 0), ("drop", 1), ("exchange", 0), ("put", 0, 0), ("put", 1, 2), ("put", 0), ("drop", 0, 0), ("cut",))


def small_rows():
    """All small halls, each with all its small ROWs."""
    pairs = [(hall, slow.all_rows(1, 4)) for hall in samples.all_halls(1)]
    pairs += [(hall, slow.all_rows(2, 5)) for hall in samples.all_halls(2)]
    pairs += [(hall, slow.all_rows(3, 4)) for hall in samples.all_halls(3)]
    return pairs


def drawn_rows(count, calls=31, persons=(3, 8), seed=15):
    """Halls with a ROW of up to so many calls, always the same ones."""
    source = random.Random(seed)
    drawn = []
    for number in range(count):
        hall = samples.random_hall(source, source.randint(*persons))
        size = source.randint(0, calls)
        drawn.append((hall, [source.randrange(len(hall)) for call in range(size)]))
    return drawn


def all_deeds(hall, row):
    """All DEEDs that can be done, each with the ROW behind it."""
    deeds = [(word, place) for word in ("drop", "exchange") for place in range(len(row))]
    deeds += [("put", place, person) for place in range(len(row) + 1) for person in range(len(hall))]
    told = [(deed, slow.behind_deed(hall, row, deed)) for deed in deeds]
    return [(deed, reached) for deed, reached in told if reached is not None]


def wandered(source, hall, row, steps, most=31):
    """A ROW that so many DEEDs, drawn by chance, lead to, and these."""
    deeds = []
    for step in range(steps):
        choices = [one for one in all_deeds(hall, row) if len(one[1]) <= most]
        if choices:
            deed, row = source.choice(choices)
            deeds.append(deed)
    return row, deeds


class DropWord(unittest.TestCase):
    def test_told_ones(self):
        hall = ((1,), (), (0,))
        self.assertEqual([drop_word(hall, [0, 0], place) for place in range(2)], ["lost", "again"])
        self.assertEqual([drop_word(hall, [0, 1, 0], place) for place in range(3)], ["lost", "", ""])
        self.assertEqual([drop_word(hall, [0, 2, 0], place) for place in range(3)], ["", "", "again"])
        self.assertEqual([drop_word(hall, [0, 2, 1, 0], place) for place in range(4)], ["", "", "", ""])
        self.assertEqual(drop_word(hall, [0], 0), "")

    def test_again_goes_ahead_of_lost(self):
        self.assertEqual([drop_word(FREE, [1, 1, 1], place) for place in range(3)], ["lost", "again", "again"])
        self.assertEqual(drop_word(FREE, [1, 0, 1, 2, 1], 2), "again")

    def test_one_who_sees_itself_is_never_dropped(self):
        for row in slow.all_rows(2, 5):
            for place, person in enumerate(row):
                if person == 0:
                    self.assertEqual(drop_word(((0,), (0,)), row, place), "")

    def test_since_the_last_and_till_the_next_such_call_alone(self):
        hall = ((1,), (), (0,))
        self.assertEqual(drop_word(hall, [0, 1, 0, 0], 3), "again")
        self.assertEqual(drop_word(hall, [1, 0, 0], 2), "again")
        self.assertEqual(drop_word(hall, [0, 0, 1], 1), "again")
        self.assertEqual(drop_word(hall, [0, 1, 0, 2, 0], 0), "lost")
        self.assertEqual(drop_word(hall, [2, 0, 1, 0], 1), "lost")

    def test_by_the_words_at_each_place(self):
        for hall, rows in small_rows():
            for row in rows:
                for place in range(len(row)):
                    self.assertEqual(drop_word(hall, row, place), slow.drop_word(hall, row, place))

    def test_by_the_words_in_larger_halls(self):
        for hall, row in drawn_rows(200):
            for place in range(len(row)):
                self.assertEqual(drop_word(hall, row, place), slow.drop_word(hall, row, place))

    def check_dropped(self, hall, row):
        """What's dropped isn't needed: as many calls are without it, and what's left is alike.

        By [11] a lost call may still be the one that bears the word needed, where the next call
        of its person writes the same version once more: of two such calls [11] counts the first.
        """
        told = words(hall, as_history(row))
        calls = needed(hall, as_history(row))
        for place, person in enumerate(row):
            word = drop_word(hall, row, place)
            if not word:
                continue
            left = row[:place] + row[place + 1 :]
            self.assertIs(are_alike(hall, as_history(row), as_history(left)), True)
            self.assertEqual(needed(hall, as_history(left)), calls)
            if word == "again":
                self.assertEqual(told[place], [(person, "same")])
            elif told[place] == [(person, "needed")]:
                behind = row.index(person, place + 1)
                self.assertEqual(told[behind], [(person, "same")])

    def test_what_is_dropped_is_not_needed(self):
        for hall, row in drawn_rows(200, 12):
            self.check_dropped(hall, row)

    def test_what_is_dropped_is_not_needed_in_all_small_rows(self):
        for hall, rows in small_rows()[:18] + small_rows()[18::9]:
            for row in rows:
                self.check_dropped(hall, row)

    def test_not_the_other_way_about(self):
        hall = ((1,), (), (0,))
        row = [1, 0, 1, 0]
        self.assertEqual(words(hall, as_history(row))[3], [(0, "same")])
        self.assertEqual(drop_word(hall, row, 3), "")

    def test_dropped_as_long_as_any_may_be_the_needed_calls_are_left(self):
        source = random.Random(3)
        small = [(hall, row) for hall, rows in small_rows()[::11] for row in rows]
        for hall, row in small + drawn_rows(100):
            calls = needed(hall, as_history(row))
            left = list(row)
            places = [place for place in range(len(left)) if drop_word(hall, left, place)]
            while places:
                del left[source.choice(places)]
                places = [place for place in range(len(left)) if drop_word(hall, left, place)]
            self.assertEqual(sorted(left), [person for person, number in calls])

    def test_in_all_ways_of_asking(self):
        for hall, row in drawn_rows(40, 8):
            for place in range(len(row)):
                asking.check_question(self, drop_word, {"hall": hall, "row": row, "place": place})


class MayExchange(unittest.TestCase):
    def test_told_ones(self):
        self.assertIs(may_exchange(FREE, [0, 1], 0), True)
        self.assertIs(may_exchange(FREE, [0, 0], 0), False)
        self.assertIs(may_exchange(samples.LINE, [0, 2], 0), True)
        self.assertIs(may_exchange(samples.LINE, [2, 0], 0), True)
        self.assertIs(may_exchange(samples.LINE, [0, 1], 0), False)
        self.assertIs(may_exchange(samples.LINE, [1, 0], 0), False)
        self.assertIs(may_exchange(((0,), (1,)), [0, 1], 0), True)
        self.assertIs(may_exchange(samples.LINE, [0, 1, 2, 0], 2), True)

    def test_by_the_words_at_each_place(self):
        for hall, rows in small_rows():
            for row in rows:
                for place in range(len(row) - 1):
                    self.assertIs(may_exchange(hall, row, place), slow.may_exchange(hall, row, place))

    def test_what_is_exchanged_is_alike(self):
        for hall, row in drawn_rows(150, 12):
            for place in range(len(row) - 1):
                turned = row[:place] + [row[place + 1], row[place]] + row[place + 2 :]
                if may_exchange(hall, row, place):
                    self.assertIs(are_alike(hall, as_history(row), as_history(turned)), True)

    def test_in_all_ways_of_asking(self):
        for hall, row in drawn_rows(40, 8):
            for place in range(len(row) - 1):
                asking.check_question(self, may_exchange, {"hall": hall, "row": row, "place": place})


class Led(unittest.TestCase):
    def refused(self, hall, row, deeds):
        with self.assertRaises(BadDeed) as refusal:
            led(hall, row, deeds)
        return refusal.exception.number

    def test_one_by_one(self):
        self.assertEqual(led(samples.LINE, [0, 1, 2], []), [0, 1, 2])
        self.assertEqual(led(samples.LINE, [0, 2, 0], [("drop", 0)]), [2, 0])
        self.assertEqual(led(samples.LINE, [0, 2, 0], [("exchange", 1), ("drop", 1)]), [0, 2])
        self.assertEqual(led(samples.LINE, [0, 1], [("put", 2, 1), ("put", 0, 0), ("put", 1, 0)]), [0, 0, 0, 1, 1])
        self.assertEqual(led(samples.LINE, [2], [("put", 1, 2)]), [2, 2])
        self.assertEqual(led(samples.LINE, [2], [("put", 0, 2)]), [2, 2])

    def test_the_first_that_cannot_be_done(self):
        self.assertEqual(self.refused(samples.LINE, [0, 1], [("drop", 0)]), 0)
        self.assertEqual(self.refused(samples.LINE, [0, 0], [("drop", 0), ("drop", 0)]), 1)
        self.assertEqual(self.refused(samples.LINE, [0, 2], [("exchange", 0)] * 3 + [("exchange", 1)]), 3)
        self.assertEqual(self.refused(samples.LINE, [0, 1], [("exchange", 0)]), 0)
        self.assertEqual(self.refused(samples.LINE, [1], [("put", 0, 0)]), 0)
        self.assertEqual(self.refused(samples.ITSELF, [0], [("put", 1, 0)]), 0)

    def test_places_and_persons_that_are_not_there(self):
        for deed in (
            ("drop", 2), ("drop", 10**30), ("exchange", 2), ("exchange", 3), ("exchange", 10**30),
            ("put", 3, 0), ("put", 10**30, 0), ("put", 0, 3), ("put", 2, 10**30), ("exchange", 1),
        ):
            self.assertEqual(self.refused(samples.LINE, [2, 2], [deed]), 0, deed)
            self.assertEqual(self.refused(samples.LINE, [2, 2], [("put", 2, 2), ("drop", 2), deed]), 2, deed)
        for deed in (("drop", 0), ("exchange", 0), ("put", 0, 0), ("put", 1, 0)):
            self.assertEqual(self.refused(samples.LINE, [], [deed]), 0, deed)

    def test_places_and_persons_below_nought(self):
        below = (-1, -2, -3, -4, -(10**30))
        deeds = [(word, place) for word in ("drop", "exchange") for place in below]
        deeds += [("put", place, person) for place in below for person in (0, 1, 2, -1)]
        deeds += [("put", place, person) for place in (0, 1, 2, 3) for person in below]
        for row in ([], [2], [2, 2], [0, 1, 0]):
            for hall in (FREE, samples.LINE):
                for deed in deeds:
                    self.assertEqual(self.refused(hall, row, [deed]), 0, (hall, row, deed))
                    self.assertEqual(self.refused(hall, tuple(row), [list(deed)]), 0, (hall, row, deed))
        for deed in deeds:
            self.assertEqual(self.refused(FREE, [0, 1], [("exchange", 0), ("put", 0, 1), deed]), 2, deed)

    def test_deeds_behind_it_are_not_looked_at(self):
        deeds = [("put", 1, 0), ("drop", 5), ("drop", 0), ("exchange", 99)]
        self.assertEqual(self.refused(samples.LINE, [0], deeds), 1)

    def test_each_deed_of_all_small_rows(self):
        for hall, rows in small_rows()[::13]:
            for row in rows:
                places = range(-len(row) - 2, len(row) + 2)
                persons = range(-len(hall) - 1, len(hall) + 1)
                deeds = [(word, place) for word in ("drop", "exchange") for place in places]
                deeds += [("put", place, person) for place in places for person in persons]
                for deed in deeds:
                    right = slow.behind_deed(hall, row, deed)
                    if right is None:
                        self.assertEqual(self.refused(hall, row, [deed]), 0, (hall, row, deed))
                    else:
                        self.assertEqual(led(hall, row, [deed]), right)

    def test_many_deeds(self):
        source = random.Random(9)
        for hall, row in drawn_rows(30):
            reached, deeds = wandered(source, hall, row, 20)
            self.assertEqual(led(hall, row, deeds), reached)
            self.assertIs(are_alike(hall, as_history(row), as_history(reached)), True)
            self.assertEqual(self.refused(hall, row, deeds + [("drop", len(reached))]), len(deeds))

    def test_the_row_handed_in_stays(self):
        row = [0, 2, 0]
        led(samples.LINE, row, [("exchange", 1), ("drop", 1), ("put", 0, 0)])
        self.refused(samples.LINE, row, [("drop", 0), ("drop", 0)])
        self.assertEqual(row, [0, 2, 0])
        self.assertIsNot(led(samples.LINE, row, []), row)

    def test_in_all_ways_of_asking(self):
        source = random.Random(10)
        for hall, row in drawn_rows(30, 8):
            deeds = wandered(source, hall, row, 4)[1]
            asking.check_question(self, led, {"hall": hall, "row": row, "deeds": deeds})


class DeedsBetween(unittest.TestCase):
    def check(self, hall, one, other, alike):
        told = deeds_between(hall, one, other)
        if not alike:
            self.assertIsNone(told)
            return
        self.assertIs(slow.is_deeds(hall, one, other, told), True, (hall, one, other, told))
        self.assertEqual(led(hall, one, told), other)
        self.assertIs(shows_deeds(hall, one, other, told), True)

    def test_all_small_rows(self):
        pairs = [(hall, 4) for hall in samples.all_halls(1) + samples.all_halls(2)]
        pairs += [(hall, 3) for hall in samples.all_halls(3)[::23]]
        for hall, longest in pairs:
            told = slow.row_trees(hall, longest)
            for one, mine in told:
                for other, yours in told:
                    self.check(hall, one, other, mine == yours)

    def test_longer_rows_that_are_alike(self):
        for hall in [((), (), ()), samples.LINE] + samples.all_halls(3)[7::61]:
            groups = {}
            for row, trees in slow.row_trees(hall, 5):
                groups.setdefault(trees, []).append(row)
            for rows in groups.values():
                for one in rows[::3]:
                    for other in rows[:: 1 + len(rows) // 6]:
                        self.check(hall, one, other, True)

    def test_of_one_and_itself(self):
        for hall, row in drawn_rows(40):
            self.check(hall, row, list(row), True)
        self.assertEqual(led(samples.LINE, [], deeds_between(samples.LINE, [], [])), [])

    def test_rows_of_31_calls(self):
        source = random.Random(11)
        for number in range(40):
            hall = samples.random_hall(source, source.randint(3, 8))
            row = [source.randrange(len(hall)) for call in range(31)]
            reached = wandered(source, hall, row, 25)[0]
            self.check(hall, row, reached, True)
            self.check(hall, reached, row, True)
            other = [source.randrange(len(hall)) for call in range(31)]
            self.check(hall, row, other, are_alike(hall, as_history(row), as_history(other)))

    def test_none_just_where_a_trail_parts_them(self):
        for hall, row in drawn_rows(60, 8):
            for place in range(len(row)):
                other = row[:place] + row[place + 1 :]
                parted = parting_trail(hall, as_history(row), as_history(other))
                self.assertEqual(deeds_between(hall, row, other) is None, parted is not None)

    def test_rows_that_were_told_of_the_largest_histories(self):
        row = [person % 8 for person in range(300)]
        for hall in (((),) * 8, tuple(tuple(range(person)) for person in range(8)), ((0,),) + ((),) * 7):
            told = one_by_one(hall, as_history(row))[1]
            self.check(hall, row, told, True)
            self.check(hall, told, row, True)

    def test_in_all_ways_of_asking(self):
        source = random.Random(12)
        for hall, row in drawn_rows(30, 8):
            other = wandered(source, hall, row, 4)[0]
            for asked in (other, row[1:]):
                asking.check_question(self, deeds_between, {"hall": hall, "one": row, "other": asked})


class ShowsDeeds(unittest.TestCase):
    def test_such_lists(self):
        source = random.Random(13)
        for hall, row in drawn_rows(60):
            reached, deeds = wandered(source, hall, row, 12)
            self.assertIs(shows_deeds(hall, row, reached, deeds), True)
            for place in range(len(deeds)):
                fewer = deeds[:place] + deeds[place + 1 :]
                self.assertIs(shows_deeds(hall, row, reached, fewer), slow.is_deeds(hall, row, reached, fewer))

    def test_bent_ones_and_the_thing_stays(self):
        cases = (
            (samples.LINE, [0, 2, 0], [2, 0], [("drop", 0)]),
            (samples.LINE, [0, 2], [2, 0], [("exchange", 0)]),
            (samples.LINE, [1, 0], [1, 0, 0], [("put", 1, 0), ("drop", 1), ("put", 2, 0)]),
            (FREE, [0, 1], [0, 1], []),
        )
        for hall, one, other, deeds in cases:
            self.assertIs(shows_deeds(hall, one, other, deeds), True)
            for thing in list(samples.variants(deeds)) + [deeds + [piece] for piece in PIECES]:
                before = copy.deepcopy(thing)
                right = slow.is_deeds(hall, one, other, thing)
                self.assertIs(shows_deeds(hall, one, other, thing), right, thing)
                self.assertEqual(repr(thing), repr(before))

    def test_wrong_ones(self):
        for thing in (
            None, True, 0, "drop", (), (("drop", 0),), [["drop", 0]], [("drop", False)], [("drop", -3)], [("drop",)],
            [()], [("drop", 0, 0)], [("put", 0)], [("put", 0, True)], [("put", 0, -1)], [("lost", 0)], [(["drop"], 0)],
            [("drop", "0")], [("drop", None)], [("drop", (0,))], [((), 0)], ["drop"], [None], [0], [("drop", 9)],
            [("put", 9, 0)], [("put", 0, 9)], [], [("drop", 0), ("drop", 0)],
        ):
            self.assertIs(shows_deeds(samples.LINE, [0, 0], [0], thing), False, thing)
        self.assertIs(shows_deeds(samples.LINE, [0, 0], [0], [("drop", 0)]), True)
        self.assertIs(shows_deeds(samples.LINE, [0, 0], [0], [("drop", 1)]), True)

    def test_never_of_rows_that_are_not_alike(self):
        for deed in PIECES[:5]:
            self.assertIs(shows_deeds(samples.LINE, [0, 1], [1, 0], [deed]), False)
            self.assertIs(shows_deeds(samples.LINE, [0, 1], [1, 0], []), False)

    def test_long_things(self):
        self.assertIs(shows_deeds(FREE, [0, 1], [0, 1], [("exchange", 0)] * 900), True)
        self.assertIs(shows_deeds(FREE, [0, 1], [0, 1], [("exchange", 0)] * 901), False)
        self.assertIs(shows_deeds(FREE, [0], [0], [("put", 0, 0)] * 700), False)

    def test_in_all_ways_of_asking(self):
        asked = {"hall": samples.LINE, "one": [0, 2, 0], "other": [2, 0], "thing": [("drop", 0)]}
        self.assertIs(asking.check_question(self, shows_deeds, asked), True)
        self.assertIs(asking.check_question(self, shows_deeds, {**asked, "thing": [["drop", 0]]}), False)


if __name__ == "__main__":
    unittest.main()

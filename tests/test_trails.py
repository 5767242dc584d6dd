"""trails.py: point [8]."""

import copy
import itertools
import unittest

import asking
import samples
import slow
from looktrails.trails import dates, goes, is_trail, longest_trail, trails_of


def plain_dates(history, trail, ahead=None):
    """The dates by the document's words: each the latest beat ahead of the one before."""
    found = []
    before = len(history) if ahead is None else ahead
    for person in trail:
        beats = [beat for beat, called in enumerate(history) if beat < before and person in called]
        if not beats:
            return found
        before = max(beats)
        found.append(before)
    return found


class IsTrail(unittest.TestCase):
    def test_right_ones(self):
        for thing in ((0,), (1,), (2,), (1, 0), (2, 1), (2, 1, 0)):
            self.assertIs(is_trail(samples.LINE, thing), True, thing)
        self.assertIs(is_trail(thing=(0,) * 2999, hall=samples.ITSELF), True)
        self.assertIs(is_trail(samples.TRIANGLE, (0, 1, 2, 0, 1)), True)

    def test_wrong_ones(self):
        for thing in (
            (), [], [0], [2, 1], None, True, False, 0, 1, -1, "", "0", "21", (3,), (2, 1, 3), (-1,), (2, -2), (0, 1),
            (0, 0), (2, 0), (2, 1, 0, 0), (True,), (2, True), (False,), (1, False), (None,), (1, None), ("0",),
            (1, "0"), ((0,),), (2, (1,)), ([0],), (2, [1]), (10**40,), (2, 10**40),
        ):
            self.assertIs(is_trail(samples.LINE, thing), False, thing)

    def test_all_near_right_ones(self):
        for hall in (samples.ITSELF, samples.SWAP, samples.LINE, samples.SELVES):
            right = {repr(trail) for trail in slow.all_trails(hall, 4)}
            for trail in slow.all_trails(hall, 3):
                for thing in samples.variants(trail):
                    before = copy.deepcopy(thing)
                    self.assertIs(is_trail(hall, thing), repr(thing) in right, thing)
                    self.assertEqual(repr(thing), repr(before))

    def test_in_all_small_halls(self):
        rows = [row for size in range(4) for row in itertools.product(range(3), repeat=size)]
        for hall in samples.all_halls(3):
            right = set(slow.all_trails(hall, 3))
            for row in rows:
                self.assertIs(is_trail(hall, row), row in right)

    def test_the_hall_may_be_lists(self):
        self.assertIs(is_trail([[], [0], [1]], (2, 1)), True)
        self.assertIs(is_trail([[], [0], [1]], [2, 1]), False)


class Dates(unittest.TestCase):
    history = [(0,), (1, 2), (), (0, 1), (2,), (0, 1, 2)]

    def test_told_ones(self):
        self.assertEqual(dates(samples.LINE, self.history, (2, 1, 0)), [5, 3, 0])
        self.assertEqual(dates(samples.LINE, self.history, (1, 0)), [5, 3])
        self.assertEqual(dates(samples.LINE, [(0, 1, 2)], (2, 1, 0)), [0])
        self.assertEqual(dates(samples.LINE, [], (0,)), [])
        self.assertEqual(dates(samples.LINE, [(), (0,)], (2, 1, 0)), [])
        self.assertEqual(dates(samples.ITSELF, [(0,)] * 4, (0, 0, 0)), [3, 2, 1])
        self.assertEqual(dates(samples.ITSELF, [(0,)] * 2, (0, 0, 0)), [1, 0])

    def test_the_date_is_the_latest_not_the_first(self):
        self.assertEqual(dates(samples.NOBODY, [(0,), (0,), ()], (0,)), [1])

    def test_ahead(self):
        trail = (2, 1, 0)
        told = [dates(samples.LINE, self.history, trail, ahead=ahead) for ahead in range(9)]
        self.assertEqual(told, [[], [], [1], [1], [1], [4, 3, 0], [5, 3, 0], [5, 3, 0], [5, 3, 0]])
        self.assertEqual(dates(samples.LINE, self.history, trail, ahead=10**40), [5, 3, 0])
        self.assertEqual(dates(samples.LINE, self.history, trail, ahead=None), [5, 3, 0])

    def test_against_the_plain_way(self):
        for hall, history in samples.drawn_questions(60):
            for trail in slow.all_trails(hall, 3):
                for ahead in [None, *range(len(history) + 2)]:
                    told = dates(hall, history, trail, ahead=ahead)
                    self.assertEqual(told, plain_dates(history, trail, ahead))

    def test_small_halls_and_histories(self):
        for hall, histories in samples.small_pairs():
            for trail in slow.all_trails(hall, 4):
                for history in histories:
                    self.assertEqual(dates(hall, history, trail), plain_dates(history, trail))

    def test_in_all_ways_of_asking(self):
        for hall, history in samples.drawn_questions(20):
            for trail in slow.all_trails(hall, 2):
                asked = {"hall": hall, "history": history, "trail": trail}
                asking.check_question(self, dates, asked)
                asking.check_question(self, dates, {**asked, "ahead": 2})

    def test_ahead_goes_by_its_name_alone(self):
        self.assertRaises(TypeError, dates, samples.NOBODY, [(0,)], (0,), 1)


class Goes(unittest.TestCase):
    def test_told_ones(self):
        self.assertIs(goes(samples.LINE, [(0,), (1,), (2,)], (2, 1, 0)), True)
        self.assertIs(goes(samples.LINE, [(0,), (1, 2)], (2, 1, 0)), False)
        self.assertIs(goes(samples.LINE, [(2,), (1,), (0,)], (2, 1)), False)
        self.assertIs(goes(samples.LINE, [], (0,)), False)
        self.assertIs(goes(samples.NOBODY, [(), (0,)], (0,)), True)

    def test_just_where_some_beats_that_fall_call_its_persons(self):
        for hall, histories in samples.small_pairs():
            for trail in slow.all_trails(hall, 4):
                for history in histories:
                    right = bool(slow.falling_beats(history, trail))
                    self.assertIs(goes(hall, history, trail), right)
        for hall, history in samples.drawn_questions(60):
            for trail in slow.all_trails(hall, 4):
                self.assertIs(goes(hall, history, trail), bool(slow.falling_beats(history, trail)))

    def test_a_trail_of_forty(self):
        trail = (0, 1) * 20
        history = [(1,), (0,)] * 20
        self.assertIs(goes(samples.SWAP, history, trail), True)
        self.assertIs(goes(samples.SWAP, history[1:], trail), False)
        self.assertIs(goes(samples.SWAP, history[:-1], trail), False)

    def test_in_all_ways_of_asking(self):
        for hall, history in samples.drawn_questions(20):
            for trail in slow.all_trails(hall, 2):
                asking.check_question(self, goes, {"hall": hall, "history": history, "trail": trail})


class TrailsOf(unittest.TestCase):
    def test_told_ones(self):
        history = [(0,), (1,), (0, 2)]
        self.assertEqual(trails_of(samples.LINE, history, 2), [(2,), (2, 1), (2, 1, 0)])
        self.assertEqual(trails_of(samples.LINE, history, 1), [(1,), (1, 0)])
        self.assertEqual(trails_of(samples.LINE, history, 0), [(0,)])
        self.assertEqual(trails_of(samples.LINE, [(0, 1, 2)], 2), [(2,)])

    def test_how_long(self):
        history = [(0,)] * 9
        for long in range(1, 6):
            right = [(0,) * size for size in range(1, long + 1)]
            self.assertEqual(trails_of(samples.ITSELF, history, 0, long=long), right)
        self.assertEqual(trails_of(samples.ITSELF, history, 0), [(0,), (0, 0), (0, 0, 0), (0, 0, 0, 0)])

    def test_of_one_who_is_never_called(self):
        self.assertEqual(trails_of(samples.LINE, [(0,), (1,)], 2), [])
        self.assertEqual(trails_of(samples.LINE, [], 0), [])
        self.assertEqual(trails_of(samples.LINE, [()], 0, long=1), [])

    def test_just_all_that_go_rising(self):
        for hall, history in samples.small_questions(60, samples.small_pairs()):
            going = slow.trails_that_go(hall, history, 5)
            for person in range(len(hall)):
                for long in range(1, 6):
                    right = sorted(one for one in going if one[0] == person and len(one) <= long)
                    self.assertEqual(trails_of(hall, history, person, long=long), right)

    def test_a_full_hall(self):
        hall = (tuple(range(8)),) * 8
        history = [tuple(range(5))] * 60
        told = trails_of(hall, history, 0, long=5)
        self.assertEqual(len(told), 1 + 5 + 25 + 125 + 625)
        self.assertEqual(told, sorted(told))
        self.assertEqual(len(trails_of(hall, [tuple(range(8))] * 30, 7, long=5)), 4681)

    def test_in_all_ways_of_asking(self):
        for hall, history in samples.drawn_questions(20):
            for person in range(len(hall)):
                asked = {"hall": hall, "history": history, "person": person}
                told = asking.check_question(self, trails_of, asked)
                self.assertTrue(all(type(trail) is tuple for trail in told))
                asking.check_question(self, trails_of, {**asked, "long": 2})
        self.assertRaises(TypeError, trails_of, samples.NOBODY, [], 0, 4)


class LongestTrail(unittest.TestCase):
    def test_told_ones(self):
        self.assertEqual(longest_trail(samples.LINE, [(0,), (1,), (2,)]), (2, 1, 0))
        self.assertEqual(longest_trail(samples.LINE, [(2,), (1,), (0,)]), (0,))
        self.assertEqual(longest_trail(samples.LINE, [(0, 1), (2,)]), (2, 1))
        self.assertEqual(longest_trail(samples.ITSELF, [(0,)] * 3), (0, 0, 0))

    def test_where_nobody_is_called(self):
        for hall in (samples.NOBODY, samples.ITSELF, samples.WIDE):
            for history in ([], [()], [(), ()]):
                self.assertEqual(longest_trail(hall, history), ())

    def test_the_first_of_the_longest_ones(self):
        questions = samples.drawn_questions(100, (2, 4), 5)
        questions += [(hall, history) for hall, rows in samples.small_pairs() for history in rows]
        for hall, history in questions:
            going = slow.trails_that_go(hall, history, len(history))
            longest = max([len(trail) for trail in going], default=0)
            right = min([trail for trail in going if len(trail) == longest], default=())
            self.assertEqual(longest_trail(hall, history), right)

    def test_of_many_beats(self):
        self.assertEqual(longest_trail(samples.ITSELF, [(0,)] * 60), (0,) * 60)
        self.assertEqual(longest_trail(samples.SWAP, [(0, 1)] * 60), (0, 1) * 30)
        self.assertEqual(longest_trail(samples.SWAP, [(0,), (1,)] * 30), (1, 0) * 30)
        self.assertEqual(longest_trail(samples.SWAP, [(1,), (0,)] * 30), (0, 1) * 30)
        self.assertEqual(longest_trail(((0, 1), (0,)), [(0, 1)] * 59 + [(1,)]), (1,) + (0,) * 59)

    def test_a_full_hall(self):
        hall, history = samples.full_question()
        told = longest_trail(hall, history)
        self.assertIs(is_trail(hall, told), True)
        self.assertIs(goes(hall, history, told), True)
        everyone = (tuple(range(8)),) * 8
        self.assertEqual(longest_trail(everyone, [tuple(range(5))] * 60), (0,) * 60)

    def test_what_is_handed_in_may_be_longer(self):
        self.assertEqual(longest_trail(samples.ITSELF, [(0,)] * 3000), (0,) * 3000)

    def test_in_all_ways_of_asking(self):
        for hall, history in samples.drawn_questions(30):
            told = asking.check_question(self, longest_trail, {"hall": hall, "history": history})
            self.assertIs(type(told), tuple)


if __name__ == "__main__":
    unittest.main()

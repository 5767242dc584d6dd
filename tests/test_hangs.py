"""hangs.py: point [9]."""

import copy
import random
import unittest

import asking
import samples
import slow
from looktrails.hangs import hanging_trail, hangs_on, shows_hanging
from looktrails.runs import run_marks


def plain_hangs_on(hall, history, person):
    """Those whose first slates are left in what is written, beat by beat."""
    left = [{one} for one in range(len(hall))]
    for beat in history:
        left = [
            {one for seen in hall[who] for one in left[seen]} if who in beat else left[who]
            for who in range(len(hall))
        ]
    return sorted(left[person])


def plain_shows_hanging(hall, history, person, other, trail):
    """Whether a trail leads, by the document's words, from person to other's first slate."""
    if trail[0] != person or trail[-1] != other:
        return False
    before = len(history)
    for one in trail[:-1]:
        beats = [beat for beat in range(before) if one in history[beat]]
        if not beats:
            return False
        before = max(beats)
    return not any(trail[-1] in history[beat] for beat in range(before))


def passing_rules(hall):
    """RULES by which each passes on the mark 0."""
    return [((), tuple((seen, 0, 0) for seen in row)) for row in hall]


def questions():
    return samples.small_questions(80, samples.small_pairs())


class HangsOn(unittest.TestCase):
    def test_told_ones(self):
        self.assertEqual(hangs_on(samples.LINE, [], 2), [2])
        self.assertEqual(hangs_on(samples.LINE, [(2,)], 2), [1])
        self.assertEqual(hangs_on(samples.LINE, [(1,), (2,)], 2), [0])
        self.assertEqual(hangs_on(samples.LINE, [(0,), (1,), (2,)], 2), [])
        self.assertEqual(hangs_on(samples.ITSELF, [(0,)] * 5, 0), [0])
        self.assertEqual(hangs_on(samples.SWAP, [(0, 1)], 0), [1])
        self.assertEqual(hangs_on(samples.SWAP, [(0, 1), (0, 1)], 0), [0])
        self.assertEqual(hangs_on(samples.SELVES, [(0, 1)], 1), [0, 1, 2])

    def test_of_one_who_is_never_called(self):
        for person in range(8):
            self.assertEqual(hangs_on(samples.WIDE, [()], person), [person])

    def test_first_slates_left_in_what_is_written(self):
        for hall, history in questions():
            trees = slow.last_trees(hall, history)
            for person in range(len(hall)):
                told = hangs_on(hall, history, person)
                self.assertEqual(told, plain_hangs_on(hall, history, person))
                self.assertEqual(told, sorted(slow.first_slates_in(trees[person])))

    def test_marks_that_are_passed_on_come_from_just_these(self):
        for hall, history in questions():
            for other in range(len(hall)):
                first = [(0,) if person == other else () for person in range(len(hall))]
                last = run_marks(hall, history, passing_rules(hall), first)
                right = [person for person in range(len(hall)) if last[person]]
                told = [one for one in range(len(hall)) if other in hangs_on(hall, history, one)]
                self.assertEqual(told, right)

    def test_no_rules_make_it_hang_on_another_one(self):
        source = random.Random(1)
        for hall, history in samples.drawn_questions(200):
            rules = samples.drawn_rules(source, hall)
            first = [samples.drawn_slate(source) for person in hall]
            other = source.randrange(len(hall))
            changed = list(first)
            changed[other] = samples.drawn_slate(source)
            last = run_marks(hall, history, rules, first)
            for person, slate in enumerate(run_marks(hall, history, rules, changed)):
                if slate != last[person]:
                    self.assertIn(other, hangs_on(hall, history, person))

    def test_a_full_hall(self):
        hall, history = samples.full_question()
        for person in range(8):
            self.assertEqual(hangs_on(hall, history, person), plain_hangs_on(hall, history, person))

    def test_in_all_ways_of_asking(self):
        for hall, history in samples.drawn_questions(20):
            for person in range(len(hall)):
                asked = {"hall": hall, "history": history, "person": person}
                asking.check_question(self, hangs_on, asked)


class HangingTrail(unittest.TestCase):
    def test_told_ones(self):
        self.assertEqual(hanging_trail(samples.LINE, [], 2, 2), (2,))
        self.assertEqual(hanging_trail(samples.LINE, [(2,)], 2, 1), (2, 1))
        self.assertEqual(hanging_trail(samples.LINE, [(1,), (2,)], 2, 0), (2, 1, 0))
        self.assertEqual(hanging_trail(samples.ITSELF, [(0,)] * 3, 0, 0), (0, 0, 0, 0))
        self.assertEqual(hanging_trail(samples.SWAP, [(0, 1), (0, 1)], 0, 0), (0, 1, 0))

    def test_none_where_it_does_not_hang_on_it(self):
        self.assertIsNone(hanging_trail(samples.LINE, [(2,)], 2, 2))
        self.assertIsNone(hanging_trail(samples.LINE, [], 2, 1))
        self.assertIsNone(hanging_trail(samples.LINE, [(0,), (1,), (2,)], 2, 0))

    def test_of_one_who_is_never_called(self):
        for person in range(8):
            for other in range(8):
                told = hanging_trail(samples.WIDE, [()], person, other)
                self.assertEqual(told, (person,) if other == person else None)

    def test_the_first_of_the_shortest(self):
        for hall, history in questions():
            trails = slow.all_trails(hall, len(history) + 1)
            for person in range(len(hall)):
                for other in range(len(hall)):
                    told = hanging_trail(hall, history, person, other)
                    right = next(
                        (one for one in trails if plain_shows_hanging(hall, history, person, other, one)), None
                    )
                    self.assertEqual(told, right)
                    self.assertEqual(told is not None, other in hangs_on(hall, history, person))
                    self.assertIs(shows_hanging(hall, history, person, other, told), told is not None)

    def test_a_full_hall(self):
        for seed in range(5):
            hall, history = samples.full_question(seed)
            for person in range(8):
                for other in hangs_on(hall, history, person):
                    told = hanging_trail(hall, history, person, other)
                    self.assertIs(shows_hanging(hall, history, person, other, told), True)

    def test_in_all_ways_of_asking(self):
        for hall, history in samples.drawn_questions(10):
            for person in range(len(hall)):
                for other in range(len(hall)):
                    asked = {"hall": hall, "history": history, "person": person, "other": other}
                    asking.check_question(self, hanging_trail, asked)


class ShowsHanging(unittest.TestCase):
    def test_told_ones(self):
        history = [(1,), (2,)]
        self.assertIs(shows_hanging(samples.LINE, history, 2, 0, (2, 1, 0)), True)
        for thing in ((2, 1), (2,), (0,), (1, 0), (), [2, 1, 0], (2, 1, 0, 0), (2, 1, False), (2, True, 0), None, 0, ""):
            self.assertIs(shows_hanging(samples.LINE, history, 2, 0, thing), False, thing)
        self.assertIs(shows_hanging(samples.LINE, [], 2, 2, (2,)), True)
        self.assertIs(shows_hanging(samples.LINE, [(2,)], 2, 2, (2,)), False)
        self.assertIs(shows_hanging(samples.LINE, [], 2, 1, (2, 1)), False)

    def test_however_long(self):
        hall = ((0, 1), (0, 1))
        history = [(0,)] * 3
        for thing in ((0, 1), (0, 0, 1), (0, 0, 0, 1)):
            self.assertIs(shows_hanging(hall, history, 0, 1, thing), True)
        self.assertIs(shows_hanging(hall, history, 0, 1, (0, 0, 0, 0, 1)), False)
        self.assertIs(shows_hanging(samples.ITSELF, [(0,)] * 500, 0, 0, (0,) * 501), True)
        self.assertIs(shows_hanging(samples.ITSELF, [(0,)] * 500, 0, 0, (0,) * 500), False)

    def test_of_all_trails(self):
        for hall, history in questions():
            trails = slow.all_trails(hall, 4)
            for person in range(len(hall)):
                for other in range(len(hall)):
                    for trail in trails:
                        right = plain_shows_hanging(hall, history, person, other, trail)
                        self.assertIs(shows_hanging(hall, history, person, other, trail), right)

    def test_of_anything(self):
        for hall, history in ((samples.LINE, [(1,), (2,)]), (samples.SELVES, [(0, 1), (1,), (0, 2)])):
            right = {
                repr(trail)
                for trail in slow.all_trails(hall, 5)
                if plain_shows_hanging(hall, history, 2, 0, trail)
            }
            for start in [(2, 1, 0), (2, 1, 1, 0)]:
                for thing in samples.variants(start):
                    before = copy.deepcopy(thing)
                    told = shows_hanging(hall, history, 2, 0, thing)
                    self.assertIs(told, repr(thing) in right, thing)
                    self.assertEqual(repr(thing), repr(before))

    def test_in_all_ways_of_asking(self):
        asked = {"hall": samples.LINE, "history": [(1,), (2,)], "person": 2, "other": 0, "thing": (2, 1, 0)}
        self.assertIs(asking.check_question(self, shows_hanging, asked), True)
        asked["thing"] = [2, 1, 0]
        self.assertIs(asking.check_question(self, shows_hanging, asked), False)


if __name__ == "__main__":
    unittest.main()

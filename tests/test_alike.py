"""alike.py: point [10]."""

import copy
import random
import unittest

import asking
import samples
import slow
from looktrails.alike import are_alike, parting_rules, parting_trail, shows_parted, unlike_persons
from looktrails.runs import is_rules, run_marks
from looktrails.trails import goes

ALL_FIVE = (tuple(range(5)),) * 5


def pairs_of_histories():
    return samples.small_comparisons(300, 25)


def parted_by(hall, one, other, watched=None):
    """The first of the shortest trails of watched ones that go in just one of both, or None."""
    for trail in slow.all_trails(hall, 1 + max(len(one), len(other))):
        if watched is not None and trail[0] not in watched:
            continue
        if bool(slow.falling_beats(one, trail)) != bool(slow.falling_beats(other, trail)):
            return trail
    return None


class AreAlike(unittest.TestCase):
    def test_told_ones(self):
        self.assertIs(are_alike(samples.LINE, [], []), True)
        self.assertIs(are_alike(samples.NOBODY, [(0,)], [(0,), (0,)]), True)
        self.assertIs(are_alike(samples.NOBODY, [(0,)], []), False)
        self.assertIs(are_alike(samples.ITSELF, [(0,)], [(0,), (0,)]), False)
        self.assertIs(are_alike(samples.LINE, [(0,), (2,)], [(0, 2)]), True)
        self.assertIs(are_alike(samples.LINE, [(0,), (1,)], [(0, 1)]), False)
        self.assertIs(are_alike(samples.SWAP, [(0, 1)], [(0,), (1,)]), False)
        self.assertIs(are_alike(samples.LINE, [(1,), (0,), (1,)], [(0,), (1,)]), True)

    def test_watched(self):
        one, other = [(0,), (1,)], [(0, 1)]
        self.assertIs(are_alike(samples.LINE, one, other, watched=[0, 2]), True)
        self.assertIs(are_alike(samples.LINE, one, other, watched=[1]), False)
        self.assertIs(are_alike(samples.LINE, one, other, watched=[0, 1, 2]), False)
        self.assertIs(are_alike(samples.LINE, one, other, watched=[]), True)
        self.assertIs(are_alike(samples.LINE, one, other, watched=None), False)

    def test_against_what_all_telling_rules_write(self):
        for hall, one, other in pairs_of_histories():
            for watched in samples.watched_choices(hall):
                right = slow.watched_trees(hall, one, watched) == slow.watched_trees(hall, other, watched)
                self.assertIs(are_alike(hall, one, other, watched=watched), right)
                self.assertIs(are_alike(hall, other, one, watched=watched), right)

    def test_just_where_the_same_trails_go_in_both(self):
        for hall, one, other in pairs_of_histories():
            self.assertIs(are_alike(hall, one, other), parted_by(hall, one, other) is None)

    def test_bare_beats_change_nothing(self):
        for hall, history in samples.drawn_questions(60):
            for place in range(len(history) + 1):
                longer = history[:place] + [(), ()] + history[place:]
                self.assertIs(are_alike(hall, history, longer), True)
            self.assertIs(are_alike(hall, history, slow.without_bare(history)), True)

    def test_alike_ones_end_the_same_under_drawn_rules(self):
        source = random.Random(1)
        for hall, one, other in samples.drawn_pairs(300):
            rules = samples.drawn_rules(source, hall)
            first = [samples.drawn_slate(source) for person in hall]
            mine, yours = run_marks(hall, one, rules, first), run_marks(hall, other, rules, first)
            for person in range(len(hall)):
                if are_alike(hall, one, other, watched=[person]):
                    self.assertEqual(mine[person], yours[person])

    def test_a_full_hall(self):
        hall, history = samples.full_question()
        self.assertIs(are_alike(hall, history, list(history)), True)
        self.assertIs(are_alike(hall, history, history[:-1] + [()]), False)
        self.assertIs(are_alike(ALL_FIVE, [tuple(range(5))] * 60, [tuple(range(5))] * 59), False)

    def test_in_all_ways_of_asking(self):
        for hall, one, other in samples.drawn_pairs(20):
            asked = {"hall": hall, "one": one, "other": other}
            asking.check_question(self, are_alike, asked)
            asking.check_question(self, are_alike, {**asked, "watched": [0, 2]})
        self.assertRaises(TypeError, are_alike, samples.NOBODY, [], [], None)


class UnlikePersons(unittest.TestCase):
    def test_told_ones(self):
        self.assertEqual(unlike_persons(samples.LINE, [(0,), (1,), (2,)], [(0, 1, 2)]), [1, 2])
        self.assertEqual(unlike_persons(samples.LINE, [(0,)], []), [0])
        self.assertEqual(unlike_persons(samples.LINE, [(0,)], [(), (0,)]), [])

    def test_against_what_all_telling_rules_write(self):
        for hall, one, other in pairs_of_histories():
            mine, yours = slow.last_trees(hall, one), slow.last_trees(hall, other)
            right = [person for person in range(len(hall)) if mine[person] != yours[person]]
            self.assertEqual(unlike_persons(hall, one, other), right)
            self.assertEqual(unlike_persons(hall, other, one), right)

    def test_in_all_ways_of_asking(self):
        for hall, one, other in samples.drawn_pairs(20):
            asking.check_question(self, unlike_persons, {"hall": hall, "one": one, "other": other})


class PartingTrail(unittest.TestCase):
    def test_told_ones(self):
        self.assertEqual(parting_trail(samples.LINE, [(0,)], []), (0,))
        self.assertEqual(parting_trail(samples.LINE, [], [(0,)]), (0,))
        self.assertEqual(parting_trail(samples.LINE, [(0,), (1,)], [(0, 1)]), (1, 0))
        self.assertEqual(parting_trail(samples.ITSELF, [(0,)] * 4, [(0,)] * 6), (0,) * 5)
        self.assertIsNone(parting_trail(samples.LINE, [(0,)], [(0,), (0,)]))

    def test_the_first_of_the_shortest(self):
        for hall, one, other in pairs_of_histories():
            for watched in samples.watched_choices(hall):
                right = parted_by(hall, one, other, watched)
                self.assertEqual(parting_trail(hall, one, other, watched=watched), right)
                self.assertEqual(parting_trail(hall, other, one, watched=watched), right)

    def test_none_just_where_they_are_alike(self):
        for hall, one, other in pairs_of_histories():
            for watched in samples.watched_choices(hall):
                told = parting_trail(hall, one, other, watched=watched)
                self.assertIs(told is None, are_alike(hall, one, other, watched=watched))

    def test_the_shortest_one_may_begin_with_a_later_person(self):
        hall = ((0,), ())
        one, other = [(0,), (0,), (1,)], [(0,)]
        self.assertEqual(parting_trail(hall, one, other), (1,))
        self.assertEqual(parting_trail(hall, one, other, watched=[0]), (0, 0))

    def test_watched_none(self):
        self.assertIsNone(parting_trail(samples.LINE, [(0,)], [], watched=[]))

    def test_a_full_hall(self):
        everyone = tuple(range(5))
        told = parting_trail(ALL_FIVE, [everyone] * 60, [everyone] * 59)
        self.assertEqual(told, (0,) * 60)
        for seed in range(5):
            hall, history = samples.full_question(seed)
            for beat in (0, 30, 59):
                changed = list(history)
                changed[beat] = history[beat][:-1]
                told = parting_trail(hall, history, changed)
                self.assertIs(told is None, are_alike(hall, history, changed))
                if told is not None:
                    self.assertNotEqual(goes(hall, history, told), goes(hall, changed, told))

    def test_in_all_ways_of_asking(self):
        for hall, one, other in samples.drawn_pairs(20):
            asked = {"hall": hall, "one": one, "other": other}
            asking.check_question(self, parting_trail, asked)
            asking.check_question(self, parting_trail, {**asked, "watched": [1, 2]})
        self.assertRaises(TypeError, parting_trail, samples.NOBODY, [], [], None)


class PartingRules(unittest.TestCase):
    def check(self, hall, trail, histories):
        rules = parting_rules(hall, trail)
        self.assertIs(is_rules(hall, rules), True)
        bare = [() for person in hall]
        for history in histories:
            last = run_marks(hall, history, rules, bare)
            self.assertIs(0 in last[trail[0]], goes(hall, history, trail), (hall, history, trail))

    def test_nought_stands_there_just_where_it_goes(self):
        for hall, histories in samples.small_pairs():
            for trail in slow.all_trails(hall, 4):
                self.check(hall, trail, histories)

    def test_in_larger_halls(self):
        for hall, history in samples.drawn_questions(60):
            for trail in slow.all_trails(hall, 4):
                self.check(hall, trail, [history])

    def test_trails_of_one_person(self):
        for hall in (samples.NOBODY, samples.ITSELF, samples.WIDE):
            for person in range(len(hall)):
                self.check(hall, (person,), [[], [()], [(person,)], [(person,)] * 3, [(0,)]])

    def test_one_person_several_times(self):
        self.check(samples.ITSELF, (0,) * 5, [[(0,)] * many for many in range(9)])
        self.check(samples.SWAP, (0, 1, 0, 1, 0), samples.all_histories(2, 5))
        self.check(samples.SELVES, (1, 1, 0, 1, 2, 1), [row for hall, row in samples.drawn_questions(80, (3, 3), 9)])

    def test_trails_of_forty_persons(self):
        self.check(samples.ITSELF, (0,) * 40, [[(0,)] * many for many in (38, 39, 40, 41)])
        self.check(samples.SWAP, (0, 1) * 20, [[(0, 1)] * many for many in (39, 40)] + [[(1,), (0,)] * 20])
        hall, history = samples.BUSY, samples.full_question()[1]
        trail = (0,)
        while len(trail) < 40:
            trail += (hall[trail[-1]][len(trail) % len(hall[trail[-1]])],)
        self.check(hall, trail, [history, history[20:], history * 2, [tuple(range(8))] * 40, [tuple(range(8))] * 39])

    def test_what_was_told_may_be_handed_in_again(self):
        trail = parting_trail(samples.ITSELF, [(0,)] * 60, [(0,)] * 59)
        self.check(samples.ITSELF, trail, [[(0,)] * 59, [(0,)] * 60])

    def test_in_all_ways_of_asking(self):
        for hall in samples.all_halls(2):
            for trail in slow.all_trails(hall, 3):
                asking.check_question(self, parting_rules, {"hall": hall, "trail": trail})


class ShowsParted(unittest.TestCase):
    def test_told_ones(self):
        one, other = [(0,), (1,)], [(0, 1)]
        rules = parting_rules(samples.LINE, (1, 0))
        bare = [(), (), ()]
        self.assertIs(shows_parted(samples.LINE, one, other, (rules, bare)), True)
        self.assertIs(shows_parted(samples.LINE, one, other, (rules, bare), watched=[1]), True)
        self.assertIs(shows_parted(samples.LINE, one, other, (rules, bare), watched=[0, 2]), False)
        self.assertIs(shows_parted(samples.LINE, one, other, (rules, bare), watched=[]), False)
        self.assertIs(shows_parted(samples.LINE, one, one, (rules, bare)), False)
        self.assertIs(shows_parted(samples.LINE, one, other, ([((), ())] * 3, bare)), False)

    def test_first_slates_may_part_by_themselves(self):
        rules = [((), ())]
        self.assertIs(shows_parted(samples.NOBODY, [], [(0,)], (rules, [(5,)])), True)
        self.assertIs(shows_parted(samples.NOBODY, [], [(0,)], (rules, [()])), False)

    def test_what_parting_trail_and_rules_tell_shows_it(self):
        for hall, one, other in pairs_of_histories():
            bare = [() for person in hall]
            for watched in samples.watched_choices(hall):
                trail = parting_trail(hall, one, other, watched=watched)
                if trail is not None:
                    thing = (parting_rules(hall, trail), bare)
                    self.assertIs(shows_parted(hall, one, other, thing, watched=watched), True)

    def test_just_where_run_marks_tells_unlike_slates(self):
        source = random.Random(2)
        shown = 0
        for hall, one, other in samples.drawn_pairs(300):
            rules = samples.drawn_rules(source, hall)
            first = [samples.drawn_slate(source) for person in hall]
            mine, yours = run_marks(hall, one, rules, first), run_marks(hall, other, rules, first)
            unlike = [person for person in range(len(hall)) if mine[person] != yours[person]]
            for watched in samples.watched_choices(hall):
                right = bool(unlike if watched is None else set(unlike) & set(watched))
                told = shows_parted(hall, one, other, (rules, first), watched=watched)
                self.assertIs(told, right)
                self.assertFalse(told and are_alike(hall, one, other, watched=watched))
                shown += told
        self.assertGreater(shown, 50)

    def test_of_anything(self):
        hall, one, other = samples.SWAP, [(0,), (1,), (0,)], [(1,), (0,)]
        rules = parting_rules(hall, parting_trail(hall, one, other))
        start = (rules, [(), (3,)])
        self.assertIs(shows_parted(hall, one, other, start), True)
        for thing in samples.variants(start):
            before = copy.deepcopy(thing)
            right = (
                type(thing) is tuple
                and len(thing) == 2
                and slow.is_rules(hall, thing[0])
                and type(thing[1]) is list
                and len(thing[1]) == 2
                and all(slow.is_slate(slate) for slate in thing[1])
                and run_marks(hall, one, *thing) != run_marks(hall, other, *thing)
            )
            self.assertIs(shows_parted(hall, one, other, thing), right, thing)
            self.assertEqual(repr(thing), repr(before))

    def test_wrong_ones(self):
        rules, bare = parting_rules(samples.ITSELF, (0,)), [()]
        for thing in (
            None, True, 0, "", (), [], (rules,), [rules, bare], (rules, bare, bare), (bare, rules), (rules, ((),)),
            (rules, [[]]), (rules, []), (rules, [(), ()]), (rules, [(1, 1)]), (rules, [(True,)]), (rules, [(-1,)]),
            (rules, [(2, 1)]), (rules, [None]), (rules, None), (tuple(rules), bare), (None, bare), (rules + rules, bare),
        ):
            self.assertIs(shows_parted(samples.ITSELF, [], [(0,)], thing), False, thing)
        self.assertIs(shows_parted(samples.ITSELF, [], [(0,)], (rules, bare)), True)

    def test_in_all_ways_of_asking(self):
        rules = parting_rules(samples.LINE, (1, 0))
        asked = {"hall": samples.LINE, "one": [(0,), (1,)], "other": [(0, 1)], "thing": (rules, [(), (), ()])}
        self.assertIs(asking.check_question(self, shows_parted, asked), True)
        self.assertIs(asking.check_question(self, shows_parted, {**asked, "watched": [0, 2]}), False)
        self.assertIs(asking.check_question(self, shows_parted, {**asked, "thing": [rules, [(), (), ()]]}), False)
        self.assertRaises(TypeError, shows_parted, samples.NOBODY, [], [], None, None)


if __name__ == "__main__":
    unittest.main()

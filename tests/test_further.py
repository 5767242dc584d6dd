"""further.py: point [16], and [1] (h)."""

import copy
import random
import unittest

import asking
import samples
import slow
from looktrails.alike import are_alike
from looktrails.further import further, shows_late
from looktrails.halls import calls_in, is_history
from looktrails.least import earliest
from looktrails.order import needed

STAIRS = [(0,), (1,), (2,)]


def some_halls():
    """Halls of three persons, among them such with rings, without, and with one who sees itself."""
    told = [samples.LINE, samples.TRIANGLE, samples.SELVES, ((), (0, 2), (1,)), ((), (0,), (0, 1))]
    return told + samples.all_halls(3)[11::73]




class Goes(unittest.TestCase):
    def test_told_ones(self):
        self.assertEqual(further(samples.LINE, [(0,)], STAIRS), ("goes", [(1,), (2,)]))
        self.assertEqual(further(samples.LINE, [], [(2,), (), (1,), (0,)]), ("goes", [(0, 1, 2)]))
        self.assertEqual(further(samples.LINE, [(2,), (0,)], [(0,), (1,)], watched=[0, 1]), ("goes", [(1,)]))
        self.assertEqual(further(samples.SWAP, [(0,)], [(0,), (1,), (0,)]), ("goes", [(1,), (0,)]))

    def test_nothing_where_they_are_alike_already(self):
        for hall, one, other in samples.drawn_pairs(300):
            for watched in samples.watched_choices(hall):
                if are_alike(hall, one, other, watched=watched):
                    self.assertEqual(further(hall, one, other, watched=watched), ("goes", []))
                else:
                    self.assertNotEqual(further(hall, one, other, watched=watched), ("goes", []))

    def test_where_none_is_watched_nothing(self):
        self.assertEqual(further(samples.LINE, [(2,)], STAIRS, watched=[]), ("goes", []))
        self.assertIs(shows_late(samples.LINE, [(2,)], STAIRS, [(2, 0)], watched=[]), False)

    def test_a_slate_of_which_other_has_no_version_is_written_over(self):
        hall = ((), (0,))
        self.assertEqual(further(hall, [(1,)], [(0,), (1,)]), ("goes", [(0,), (1,)]))
        self.assertEqual(further(hall, [(1,), (1,), (0,)], [(0,), (1,)]), ("goes", [(1,)]))
        self.assertEqual(further(hall, [(0,), (1,)], [(1,), (0,)]), ("late", [(1, 1), (0, 0)]))

    def check_all(self, hall, histories, watched):
        """Holds what's told against all histories that might be told behind one."""
        trees = {tuple(other): slow.watched_trees(hall, other, watched) for other in histories}
        for one in histories:
            ways = {}
            for history in histories:
                ways.setdefault(slow.watched_trees(hall, one + history, watched), []).append(history)
            for other in histories:
                word, told = further(hall, one, other, watched=watched)
                found = ways.get(trees[tuple(other)], [])
                # A history of no more beats than other always does where any does.
                self.assertEqual(word, "goes" if found else "late", (hall, one, other, watched))
                if word == "late":
                    self.assertIs(slow.is_late(hall, one, other, told, watched), True)
                    self.assertIs(shows_late(hall, one, other, told, watched=watched), True)
                    continue
                least = min(calls_in(history) for history in found)
                rows = [slow.beats_of(history) for history in found if calls_in(history) == least]
                right = {call: min(row[call] for row in rows) for call in rows[0]}
                self.assertEqual(slow.beats_of(told), right)
                self.assertEqual(len(told), max(right.values(), default=-1) + 1)
                self.assertIs(is_history(hall, told), True)

    def test_all_small_ones_of_two_persons(self):
        for hall in samples.all_halls(2):
            for watched in samples.watched_choices(hall)[:-1]:
                self.check_all(hall, samples.all_histories(2, 2), watched)

    def test_longer_ones_of_two_persons(self):
        for hall in (samples.SWAP, ((0, 1), (0,)), ((), (0,)), ((1,), (1,))):
            self.check_all(hall, samples.all_histories(2, 3), None)

    def test_all_small_ones_of_some_halls_of_three(self):
        for hall in some_halls():
            self.check_all(hall, samples.all_histories(3, 2), None)
        for hall in some_halls()[:3]:
            for watched in ([0], [1, 2]):
                self.check_all(hall, samples.all_histories(3, 2), watched)

    def test_of_one_told_on_by_any_beats_it_always_goes(self):
        for hall, one, more in samples.drawn_pairs(150, (3, 8), 12) + [(*samples.full_question(2), [(0, 1)] * 3)]:
            for watched in samples.watched_choices(hall):
                word, told = further(hall, one, one + more, watched=watched)
                self.assertEqual(word, "goes")
                self.assertIs(are_alike(hall, one + told, one + more, watched=watched), True)
                self.assertLessEqual(calls_in(told), calls_in(more))
                self.assertLessEqual(len(told), len(more))

    def test_of_nothing_it_is_the_earliest_laying(self):
        for hall, history in samples.drawn_questions(80, (3, 8), 12) + [samples.full_question(3)]:
            for watched in samples.watched_choices(hall):
                right = ("goes", earliest(hall, history, watched=watched))
                self.assertEqual(further(hall, [], history, watched=watched), right)

    def test_larger_ones(self):
        met = {"goes": 0, "late": 0}
        source = random.Random(16)
        for hall, other in samples.drawn_questions(150, (3, 8), 10):
            one = samples.changed_a_bit(source, hall, other[: source.randint(0, len(other))])
            for watched in samples.watched_choices(hall):
                word, told = further(hall, one, other, watched=watched)
                met[word] += 1
                if word == "goes":
                    self.assertIs(are_alike(hall, one + told, other, watched=watched), True)
                    self.assertEqual(further(hall, one + told, other, watched=watched), ("goes", []))
                    calls = needed(hall, other, watched=watched)
                    for person in range(len(hall)):
                        mine = sum(person in beat for beat in told)
                        self.assertLessEqual(mine, len([call for call in calls if call[0] == person]))
                else:
                    self.assertIs(shows_late(hall, one, other, told, watched=watched), True)
        self.assertGreater(min(met.values()), 200)

    def test_at_the_full_bounds(self):
        for seed in range(4):
            hall, history = samples.full_question(seed)
            word, told = further(hall, history[:30], history)
            self.assertEqual(word, "goes")
            self.assertIs(are_alike(hall, history[:30] + told, history), True)
            word, told = further(hall, history, history[:30])
            self.assertEqual(word, "late")
            self.assertIs(shows_late(hall, history, history[:30], told), True)

    def test_in_all_ways_of_asking(self):
        for hall, one, other in samples.drawn_pairs(40):
            asked = {"hall": hall, "one": one, "other": other}
            asking.check_question(self, further, asked)
            asking.check_question(self, further, {**asked, "watched": [0, 2]})
            asking.check_question(self, further, {**asked, "one": other[:2]})
        self.assertRaises(TypeError, further, samples.NOBODY, [], [], None)


class Late(unittest.TestCase):
    def test_told_ones(self):
        self.assertEqual(further(samples.NOBODY, [(0,)], []), ("late", [(0, 0)]))
        self.assertEqual(further(samples.LINE, [(0,)], [(1,)], watched=[1]), ("late", [(1, 1), (0, 0)]))
        told = further(samples.LINE, [(0,), (1,)], [(1,), (2,)], watched=[2])
        self.assertEqual(told, ("late", [(2, 1), (1, 1), (0, 0)]))

    def test_a_watched_one_that_other_never_calls(self):
        self.assertIs(shows_late(samples.LINE, [(2,)], [(0,)], [(2, 0)]), True)
        self.assertIs(shows_late(samples.LINE, [(2,)], [(0,)], [(2, 0)], watched=[0]), False)
        self.assertIs(shows_late(samples.LINE, [(2,)], [(0,)], [(1, 0)]), False)
        self.assertIs(shows_late(samples.LINE, [(2,)], [(0,)], [(0, 0)]), False)

    def test_any_such_list(self):
        hall = ((), (0,), (0, 1))
        one, other = [(0,)], [(1,), (2,)]
        for thing in ([(1, 1), (0, 0)], [(2, 1), (0, 0)], [(2, 1), (1, 1), (0, 0)], [(0, 0)]):
            self.assertIs(shows_late(hall, one, other, thing), True, thing)
        for thing in (
            [(2, 1), (1, 1)], [(1, 1)], [(2, 1), (1, 0)], [(1, 0)], [(1, 1), (0, 0), (0, 0)], [(2, 1), (2, 1), (0, 0)],
            [(0, 0), (0, 0)], [(1, 1), (2, 1), (0, 0)], [(1, 2), (0, 0)], [(3, 0)], [(0, 1)], [],
        ):
            self.assertIs(shows_late(hall, one, other, thing), False, thing)
        self.assertIs(shows_late(hall, one, other, [(1, 1), (0, 0)], watched=[2]), False)
        self.assertIs(shows_late(hall, one, other, [(2, 1), (1, 1), (0, 0)], watched=[2]), True)

    def test_not_where_a_want_stands_behind_one(self):
        hall = ((), (0,), (1,))
        one, other = [(1,), (0,)], [(1,), (2,)]
        self.assertEqual(further(hall, one, other, watched=[1, 2]), ("goes", [(2,)]))
        self.assertIs(shows_late(hall, one, other, [(2, 1), (1, 1), (0, 0)], watched=[1, 2]), False)

    def test_all_short_lists_of_pairs(self):
        cases = [
            (hall, one, other) for hall, one, other in samples.drawn_pairs(60, (2, 3), 3)
        ] + [(samples.LINE, [(0,)], STAIRS), (samples.LINE, [(0,), (1,)], [(1,), (2,)])]
        for hall, one, other in cases:
            pairs = [(person, number) for person in range(len(hall)) for number in range(3)]
            things = [[pair] for pair in pairs] + [[first, second] for first in pairs for second in pairs]
            for thing in things:
                for watched in (None, [0]):
                    right = slow.is_late(hall, one, other, thing, watched)
                    self.assertIs(shows_late(hall, one, other, thing, watched=watched), right)
                    if right:
                        self.assertEqual(further(hall, one, other, watched=watched)[0], "late")

    def test_of_anything_and_the_thing_stays(self):
        cases = (
            (samples.LINE, [(0,), (1,)], [(1,), (2,)], [(2, 1), (1, 1), (0, 0)]),
            (samples.LINE, [(0,)], [], [(0, 0)]),
            (samples.LINE, [(0,)], STAIRS, [(1, 1), (0, 0)]),
        )
        for hall, one, other, wants in cases:
            for thing in samples.variants(wants):
                before = copy.deepcopy(thing)
                right = slow.is_late(hall, one, other, thing)
                self.assertIs(shows_late(hall, one, other, thing), right, thing)
                self.assertEqual(repr(thing), repr(before))

    def test_wrong_ones(self):
        for thing in (
            None, True, 0, "late", (), [], ((0, 0),), [[0, 0]], [(0, False)], [(False, 0)], [(0,)], [(0, 0, 0)], [()],
            [None], [0], ["00"], [(0, -1)], [(-1, 0)], [(0, "0")], [(0, None)], [((0,), 0)], [([], 0)], [(9, 0)],
            ("late", [(0, 0)]),
        ):
            self.assertIs(shows_late(samples.LINE, [(0,)], [], thing), False, thing)
        self.assertIs(shows_late(samples.LINE, [(0,)], [], [(0, 0)]), True)

    def test_in_all_ways_of_asking(self):
        asked = {"hall": samples.LINE, "one": [(0,)], "other": [(1,)], "thing": [(1, 1), (0, 0)]}
        self.assertIs(asking.check_question(self, shows_late, asked), True)
        self.assertIs(asking.check_question(self, shows_late, {**asked, "watched": [0]}), False)
        self.assertIs(asking.check_question(self, shows_late, {**asked, "thing": [[0, 0]]}), False)
        self.assertRaises(TypeError, shows_late, samples.NOBODY, [], [], [], None)


if __name__ == "__main__":
    unittest.main()

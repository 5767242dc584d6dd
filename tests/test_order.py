"""order.py: point [12]."""

import copy
import unittest

import asking
import samples
import slow
from looktrails.alike import are_alike
from looktrails.halls import calls_in
from looktrails.order import bounds, keeps, needed, sights
from looktrails.versions import words

LINE_HISTORY = [(1,), (0, 2), (1,), (), (0, 1)]


def questions():
    return samples.small_questions(100, samples.deeper_pairs())


def plain_keeps(hall, history, thing, watched=None):
    """Whether a right HISTORY keeps the bounds, all found the slow way."""
    beats = slow.beats_of(thing)
    if set(beats) != set(slow.numbered_calls(hall, history, watched).values()):
        return False
    rows = slow.bounds(hall, history, watched)
    return all(beats[second] - beats[first] >= step for first, second, step in rows)


def is_plain_history(hall, thing):
    if type(thing) is not list:
        return False
    for beat in thing:
        if type(beat) is not tuple or not all(type(one) is int and 0 <= one < len(hall) for one in beat):
            return False
        if list(beat) != sorted(set(beat)):
            return False
    return True


class Needed(unittest.TestCase):
    def test_told_ones(self):
        self.assertEqual(needed(samples.LINE, LINE_HISTORY), [(0, 1), (1, 1), (1, 2), (2, 1)])
        self.assertEqual(needed(samples.LINE, LINE_HISTORY, watched=[0]), [(0, 1)])
        self.assertEqual(needed(samples.LINE, LINE_HISTORY, watched=[1]), [(0, 1), (1, 1)])
        self.assertEqual(needed(samples.LINE, LINE_HISTORY, watched=[2]), [(1, 1), (2, 1)])
        self.assertEqual(needed(samples.LINE, LINE_HISTORY, watched=[]), [])
        self.assertEqual(needed(samples.LINE, []), [])
        self.assertEqual(needed(samples.LINE, [(), ()]), [])
        self.assertEqual(needed(samples.ITSELF, [(0,)] * 3), [(0, 1), (0, 2), (0, 3)])
        self.assertEqual(needed(samples.NOBODY, [(0,)] * 3), [(0, 1)])

    def test_numbered_among_the_needed_ones_alone(self):
        hall = ((1,), ())
        history = [(0,), (1,), (0,)]
        self.assertEqual(words(hall, history), [[(0, "unread")], [(1, "needed")], [(0, "needed")]])
        self.assertEqual(needed(hall, history), [(0, 1), (1, 1)])
        self.assertEqual(sights(hall, history, (0, 1)), [(1, 1)])

    def test_against_the_trees(self):
        for hall, history in questions():
            for watched in samples.watched_choices(hall):
                right = sorted(slow.numbered_calls(hall, history, watched).values())
                self.assertEqual(needed(hall, history, watched=watched), right)

    def test_as_many_as_words_tells(self):
        for hall, history in samples.drawn_questions(60, (3, 8), 12):
            for watched in samples.watched_choices(hall):
                told = [word for row in words(hall, history, watched=watched) for person, word in row]
                self.assertEqual(len(needed(hall, history, watched=watched)), told.count("needed"))

    def test_in_all_ways_of_asking(self):
        for hall, history in samples.drawn_questions(20):
            asked = {"hall": hall, "history": history}
            asking.check_question(self, needed, asked)
            asking.check_question(self, needed, {**asked, "watched": [0, 2]})
        self.assertRaises(TypeError, needed, samples.NOBODY, [], None)


class Sights(unittest.TestCase):
    def test_told_ones(self):
        told = [sights(samples.LINE, LINE_HISTORY, call) for call in needed(samples.LINE, LINE_HISTORY)]
        self.assertEqual(told, [[], [(0, 0)], [(0, 1)], [(1, 1)]])
        history = [(0, 1), (0, 1)]
        self.assertEqual(sights(samples.SWAP, history, (0, 1)), [(1, 0)])
        self.assertEqual(sights(samples.SWAP, history, (1, 2)), [(0, 1)])

    def test_of_a_first_slate_nought(self):
        self.assertEqual(sights(samples.ITSELF, [(0,), (0,)], (0, 1)), [(0, 0)])
        self.assertEqual(sights(samples.ITSELF, [(0,), (0,)], (0, 2)), [(0, 1)])
        self.assertEqual(sights(samples.ALL_SEE_ALL, [(1,)], (1, 1)), [(0, 0), (1, 0), (2, 0)])

    def test_the_number_hangs_on_who_is_watched(self):
        history = [(1,), (0,), (1,), (2,), (1,)]
        self.assertEqual(sights(samples.LINE, history, (2, 1)), [(1, 1)])
        history = [(1,), (0, 2), (1,), (2,)]
        self.assertEqual(sights(samples.LINE, history, (2, 1)), [(1, 1)])
        hall = ((), (0,), (1,), (1,))
        history = [(1,), (3,), (0,), (1,), (2,)]
        self.assertEqual(sights(hall, history, (2, 1)), [(1, 2)])
        self.assertEqual(sights(hall, history, (2, 1), watched=[2]), [(1, 1)])

    def test_against_the_trees(self):
        for hall, history in questions():
            for watched in samples.watched_choices(hall):
                for call, right in slow.sights(hall, history, watched).items():
                    self.assertEqual(sights(hall, history, call, watched=watched), right)

    def test_in_all_ways_of_asking(self):
        for hall, history in samples.drawn_questions(20):
            for call in needed(hall, history, watched=[0, 2]):
                asked = {"hall": hall, "history": history, "call": call}
                asking.check_question(self, sights, asked)
                asking.check_question(self, sights, {**asked, "watched": [0, 2]})


class Bounds(unittest.TestCase):
    def test_told_ones(self):
        self.assertEqual(
            bounds(samples.LINE, LINE_HISTORY),
            [
                ((0, 1), (1, 2), 1),
                ((1, 1), (0, 1), 0),
                ((1, 1), (1, 2), 1),
                ((1, 1), (2, 1), 1),
                ((2, 1), (1, 2), 0),
            ],
        )

    def test_a_version_that_was_seen_is_wiped_no_earlier(self):
        history = [(0,), (1,), (2,), (1,), (0,)]
        hall = ((), (0, 1), (1,))
        self.assertEqual(
            bounds(hall, history),
            [
                ((0, 1), (1, 1), 1),
                ((0, 1), (1, 2), 1),
                ((1, 1), (1, 2), 1),
                ((1, 1), (2, 1), 1),
                ((2, 1), (1, 2), 0),
            ],
        )

    def test_of_one_pair_the_greater_step_alone(self):
        history = [(0,), (1,), (0,)]
        self.assertEqual(
            bounds(samples.SWAP, history),
            [((0, 1), (0, 2), 1), ((0, 1), (1, 1), 1), ((1, 1), (0, 2), 1)],
        )

    def test_rings_called_at_once_are_bound_both_ways(self):
        self.assertEqual(bounds(samples.SWAP, [(0, 1)]), [((0, 1), (1, 1), 0), ((1, 1), (0, 1), 0)])

    def test_no_bound_of_a_call_to_itself(self):
        self.assertEqual(bounds(samples.ITSELF, [(0,)]), [])
        self.assertEqual(bounds(samples.ITSELF, [(0,), (0,)]), [((0, 1), (0, 2), 1)])
        for hall, history in questions():
            for first, second, step in bounds(hall, history):
                self.assertNotEqual(first, second)

    def test_watched(self):
        hall = ((), (0,), (1,), (1,))
        history = [(1,), (3,), (0,), (1,), (2,)]
        told = bounds(hall, history, watched=[2])
        self.assertEqual(told, [((0, 1), (1, 1), 1), ((1, 1), (2, 1), 1)])
        told = bounds(hall, history, watched=[3])
        self.assertEqual(told, [((1, 1), (3, 1), 1)])
        self.assertEqual(bounds(hall, history, watched=[]), [])
        self.assertEqual(bounds(hall, []), [])

    def test_against_the_trees(self):
        for hall, history in questions():
            for watched in samples.watched_choices(hall):
                told = bounds(hall, history, watched=watched)
                self.assertEqual(told, slow.bounds(hall, history, watched))

    def test_each_pair_once_and_rising(self):
        for hall, history in samples.drawn_questions(40, (5, 8), 20):
            told = bounds(hall, history)
            self.assertEqual(told, sorted(set(told)))
            self.assertEqual(len({row[:2] for row in told}), len(told))

    def test_in_all_ways_of_asking(self):
        for hall, history in samples.drawn_questions(20):
            asked = {"hall": hall, "history": history}
            told = asking.check_question(self, bounds, asked)
            self.assertEqual(samples.kinds_of(told), ("list", [samples.kinds_of(((0, 0), (0, 0), 0))] * len(told)))
            asking.check_question(self, bounds, {**asked, "watched": [0, 2]})
        self.assertRaises(TypeError, bounds, samples.NOBODY, [], None)


class Keeps(unittest.TestCase):
    def check_group(self, hall, histories, step, watched):
        """Holds keeps against all histories of fewest calls that are alike, of each step-th one."""
        trees = [slow.watched_trees(hall, history, watched) for history in histories]
        least = {}
        for history, tree in zip(histories, trees):
            least[tree] = min(least.get(tree, 99), calls_in(history))
        for history, tree in list(zip(histories, trees))[::step]:
            for thing, other in zip(histories, trees):
                right = other == tree and calls_in(thing) == least[tree]
                self.assertIs(keeps(hall, history, thing, watched=watched), right, (hall, history, thing))

    def test_just_the_histories_of_fewest_calls_that_are_alike(self):
        for hall, histories in samples.deeper_pairs():
            self.check_group(hall, histories, 1, None)

    def test_for_those_watched(self):
        for hall, histories in samples.deeper_pairs():
            for watched in samples.watched_choices(hall)[1:]:
                self.check_group(hall, histories, 4, watched)

    def test_in_larger_halls(self):
        for hall, one, other in samples.drawn_pairs(200):
            for watched in samples.watched_choices(hall):
                for thing in (other, slow.without_bare(other), one):
                    right = plain_keeps(hall, one, thing, watched)
                    self.assertIs(keeps(hall, one, thing, watched=watched), right)
                    if right:
                        self.assertIs(are_alike(hall, one, thing, watched=watched), True)

    def test_bare_beats_no_matter_where(self):
        history = [(0,), (1,), (2,)]
        for place in range(4):
            thing = history[:place] + [(), ()] + history[place:]
            self.assertIs(keeps(samples.LINE, history, thing), True)
        self.assertIs(keeps(samples.LINE, [()], []), True)
        self.assertIs(keeps(samples.LINE, [], [(), ()]), True)

    def test_of_anything(self):
        for hall, history in ((samples.LINE, [(0,), (1, 2)]), (samples.SWAP, [(0, 1), (1,)])):
            for thing in samples.variants(history):
                before = copy.deepcopy(thing)
                right = is_plain_history(hall, thing) and plain_keeps(hall, history, thing)
                self.assertIs(keeps(hall, history, thing), right, thing)
                self.assertEqual(repr(thing), repr(before))

    def test_wrong_ones(self):
        for thing in (None, True, 0, "", (), ((0,),), [[0]], [(0,), (0,)], [(True,)], [(False,)], [(3,)], [0], [None]):
            self.assertIs(keeps(samples.LINE, [(0,)], thing), False, thing)
        self.assertIs(keeps(samples.LINE, [(0,)], [(0,)]), True)

    def test_long_things(self):
        self.assertIs(keeps(samples.ITSELF, [(0,)] * 60, [(0,), ()] * 60), True)
        self.assertIs(keeps(samples.ITSELF, [(0,)] * 60, [(0,)] * 1000), False)

    def test_in_all_ways_of_asking(self):
        asked = {"hall": samples.LINE, "history": [(0,), (1,)], "thing": [(0,), (), (1,)]}
        self.assertIs(asking.check_question(self, keeps, asked), True)
        self.assertIs(asking.check_question(self, keeps, {**asked, "watched": [0]}), False)
        self.assertIs(asking.check_question(self, keeps, {**asked, "thing": [(0,), [1]]}), False)
        self.assertRaises(TypeError, keeps, samples.NOBODY, [], [], None)


if __name__ == "__main__":
    unittest.main()

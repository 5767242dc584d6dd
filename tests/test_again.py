"""again.py: the first part of point [17]."""

import random
import unittest

import asking
import samples
import slow
from looktrails.again import goings, settles
from looktrails.alike import are_alike
from looktrails.halls import is_history


def called_at(history, person, ahead):
    """The latest beat ahead of that one at which the person is called, None where there's none."""
    return max((beat for beat in range(ahead) if person in history[beat]), default=None)


def settled_after(hall, history, person, ahead, waits):
    """After how many goings a call's slate stays, by what it sees; None where it comes back to itself."""
    beat = called_at(history, person, ahead)
    if beat is None:
        return 0
    if (person, beat) in waits:
        return None
    goings_left = [1]
    for seen in hall[person]:
        same = called_at(history, seen, beat) is not None
        inner = settled_after(hall, history, seen, beat if same else len(history), waits + [(person, beat)])
        if inner is None:
            return None
        if called_at(history, seen, len(history)) is not None:
            goings_left.append(inner if same else inner + 1)
    return max(goings_left)


def by_sights(hall, history):
    return [settled_after(hall, history, person, len(history), []) for person in range(len(hall))]


def by_goings(hall, history, most):
    """After how many goings each one's slate stays, as far as so many goings show; None beyond."""
    told = []
    for person in range(len(hall)):
        same = [
            are_alike(hall, goings(history, many), goings(history, many + 1), watched=[person])
            for many in range(most)
        ]
        left = [many for many in range(most) if all(same[many:])]
        told.append(left[0] if left else None)
    return told


class Goings(unittest.TestCase):
    def test_told_ones(self):
        history = [(0, 2), (), (1,)]
        self.assertEqual(goings(history, 0), [])
        self.assertEqual(goings(history, 1), history)
        self.assertEqual(goings(history, 2), [(0, 2), (), (1,), (0, 2), (), (1,)])
        self.assertEqual(goings([], 6), [])
        for many in range(7):
            self.assertEqual(goings(history, many), history * many)

    def test_a_history_of_lists(self):
        told = goings([[0, 2], []], 2)
        self.assertEqual(told, [(0, 2), (), (0, 2), ()])
        self.assertIs(is_history(samples.LINE, told), True)

    def test_what_is_told_is_the_askers_own(self):
        history = [(0,), (1,)]
        told = goings(history, 1)
        told.append((2,))
        self.assertEqual(history, [(0,), (1,)])
        self.assertEqual(goings(history, 1), [(0,), (1,)])

    def test_in_all_ways_of_asking(self):
        for hall, history in samples.drawn_questions(10):
            for many in (0, 1, 2, 6):
                asking.check_question(self, goings, {"history": history, "many": many})


class Settles(unittest.TestCase):
    def test_told_ones(self):
        self.assertEqual(settles(samples.LINE, [(0,), (1,), (2,)]), [1, 1, 1])
        self.assertEqual(settles(samples.LINE, [(2,), (1,), (0,)]), [1, 2, 3])
        self.assertEqual(settles(samples.LINE, [(0, 1, 2)]), [1, 2, 3])
        self.assertEqual(settles(samples.LINE, [(1,), (0, 2)]), [1, 2, 2])

    def test_one_who_is_never_called(self):
        self.assertEqual(settles(samples.LINE, [(1,)]), [0, 1, 0])
        self.assertEqual(settles(samples.LINE, [()]), [0, 0, 0])
        self.assertEqual(settles(samples.ITSELF, [(), ()]), [0])
        self.assertEqual(settles(((0, 1), ()), [(1,)]), [0, 1])

    def test_one_who_never_settles(self):
        self.assertEqual(settles(samples.ITSELF, [(0,)]), [None])
        self.assertEqual(settles(samples.SWAP, [(0,), (1,)]), [None, None])
        self.assertEqual(settles(samples.SWAP, [(0, 1)]), [None, None])
        self.assertEqual(settles(((), (1,), (0, 1), (2,)), [(0, 1, 2, 3)]), [1, None, None, None])

    def test_a_ring_of_which_one_is_never_called(self):
        self.assertEqual(settles(samples.TRIANGLE, [(0, 1)]), [2, 1, 0])
        self.assertEqual(settles(samples.SWAP, [(1,), ()]), [0, 1])

    def test_bare_beats_change_nothing(self):
        for hall, history in samples.drawn_questions(60):
            if history:
                told = settles(hall, history)
                self.assertEqual(settles(hall, [()] + history), told)
                self.assertEqual(settles(hall, history + [(), ()]), told)
                self.assertEqual(settles(hall, history[:1] + [()] + history[1:]), told)

    def test_as_many_as_there_are_persons(self):
        hall = tuple((person - 1,) if person else () for person in range(8))
        self.assertEqual(settles(hall, [tuple(range(8))]), [1, 2, 3, 4, 5, 6, 7, 8])
        self.assertEqual(settles(hall, [(person,) for person in reversed(range(8))]), [1, 2, 3, 4, 5, 6, 7, 8])
        self.assertEqual(settles(hall, [(person,) for person in range(8)]), [1] * 8)

    def test_a_call_in_the_midst_that_is_called_again(self):
        hall = ((), (0,))
        self.assertEqual(settles(hall, [(1,), (0,), (1,)]), [1, 1])
        self.assertEqual(settles(((1,), (0,)), [(0,), (1,), (0,)]), [None, None])

    def test_against_goings_of_all_small_ones(self):
        pairs = [(hall, samples.all_histories(1, 3)) for hall in samples.all_halls(1)]
        pairs += [(hall, samples.all_histories(2, 3)) for hall in samples.all_halls(2)]
        pairs += [(hall, samples.all_histories(3, 2)) for hall in samples.all_halls(3)[::11]]
        for hall, histories in pairs:
            for history in histories[1:]:
                told = settles(hall, history)
                self.assertEqual(told, by_goings(hall, history, len(hall) + 3), (hall, history))
                self.assertEqual(told, by_sights(hall, history), (hall, history))

    def test_against_the_trees(self):
        for hall in samples.all_halls(2):
            for history in samples.all_histories(2, 2)[1:]:
                rows = [slow.last_trees(hall, history * many) for many in range(5)]
                for person, told in enumerate(settles(hall, history)):
                    same = [rows[many][person] == rows[many + 1][person] for many in range(4)]
                    self.assertEqual(same, [told is not None and many >= told for many in range(4)])

    def test_against_the_sights_of_larger_ones(self):
        met = {}
        for hall, history in samples.drawn_questions(400, (3, 8), 6, 21):
            if history:
                told = settles(hall, history)
                self.assertEqual(told, by_sights(hall, history), (hall, history))
                for one in told:
                    met[one] = met.get(one, 0) + 1
        self.assertGreaterEqual(min(met.get(one, 0) for one in (None, 0, 1, 2, 3)), 3)

    def test_at_the_full_bounds(self):
        source = random.Random(5)
        for seed in range(3):
            hall, history = samples.full_question(seed)
            told = settles(hall, history)
            self.assertEqual(len(told), 8)
            sixfold = [None if one is None else -(-one // 6) for one in told]
            self.assertEqual(settles(hall, goings(history, 6)), sixfold)
        order = [source.randrange(8) for beat in range(60)]
        hall = tuple(tuple(range(person)) for person in range(8))
        self.assertNotIn(None, settles(hall, [(person,) for person in order]))

    def test_in_all_ways_of_asking(self):
        for hall, history in samples.drawn_questions(30):
            asking.check_question(self, settles, {"hall": hall, "history": history or [()]})


if __name__ == "__main__":
    unittest.main()

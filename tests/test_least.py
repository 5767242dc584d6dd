"""least.py: point [13], and [1] (c)."""

import copy
import itertools
import unittest

import asking
import samples
import slow
from looktrails.alike import are_alike
from looktrails.halls import calls_in, is_history
from looktrails.least import chain, earliest, fewest, latest, shows_chain, spans
from looktrails.order import bounds, keeps, needed

STAIRS = [(0,), (1,), (2,)]
MIXED = [(), (0,), (2,), (1, 2), (), (0,)]
# One who sees itself and two others, who see nobody.
KEEN = ((0, 1, 2), (), ())


def questions():
    return samples.small_questions(100, samples.deeper_pairs())


def pushed_beats(calls, rows, start, way):
    """Beats moved one by one in one way till all these bounds are kept."""
    beats = {call: start for call in calls}
    moved = True
    while moved:
        moved = False
        for first, second, step in rows:
            if beats[second] - beats[first] < step:
                beats[second if way > 0 else first] += way
                moved = True
    return beats


def plain_spans(hall, history, watched=None):
    """Of each CALL its earliest and its latest beat, found by moving beats one by one."""
    calls = sorted(slow.numbered_calls(hall, history, watched).values())
    rows = slow.bounds(hall, history, watched)
    early = pushed_beats(calls, rows, 0, 1)
    late = pushed_beats(calls, rows, max(early.values(), default=0), -1)
    return [(call, early[call], late[call]) for call in calls]


def laying(rows):
    """The HISTORY of pairs (CALL, beat)."""
    many = max([beat for call, beat in rows], default=-1) + 1
    return [tuple(sorted(call[0] for call, at in rows if at == beat)) for beat in range(many)]


def is_plain_chain(hall, history, thing, watched=None):
    """Whether a thing is such a list as chain tells, all found the slow way."""
    rows = plain_spans(hall, history, watched)
    calls = [call for call, first, last in rows]
    if type(thing) is not list or [repr(one) for one in thing if repr(one) not in map(repr, calls)]:
        return False
    if not thing:
        return not calls
    steps = {row[:2]: row[2] for row in slow.bounds(hall, history, watched)}
    links = list(zip(thing, thing[1:]))
    if not all(link in steps for link in links):
        return False
    return sum(steps[link] for link in links) == max(last for call, first, last in rows)


class Layings(unittest.TestCase):
    def test_told_ones(self):
        self.assertEqual(earliest(samples.LINE, STAIRS), STAIRS)
        self.assertEqual(latest(samples.LINE, STAIRS), STAIRS)
        self.assertEqual(earliest(samples.LINE, [(2,), (1,), (0,)]), [(0, 1, 2)])
        self.assertEqual(latest(samples.LINE, [(2,), (1,), (0,)]), [(0, 1, 2)])
        self.assertEqual(earliest(samples.NOBODY, [(), (0,), (0,), ()]), [(0,)])
        self.assertEqual(earliest(samples.LINE, MIXED), [(0, 2), (1,)])
        self.assertEqual(latest(samples.LINE, MIXED), [(0,), (1, 2)])
        self.assertEqual(fewest(samples.LINE, MIXED), (3, 2))
        self.assertEqual(spans(samples.LINE, MIXED), [((0, 1), 0, 0), ((1, 1), 1, 1), ((2, 1), 0, 1)])

    def test_one_who_sees_itself(self):
        history = [(0,), (0,), (1,), (0,), (2,)]
        self.assertEqual(earliest(KEEN, history), [(0,), (0, 1), (0, 2)])
        self.assertEqual(latest(KEEN, history), [(0,), (0, 1), (0, 2)])
        hall = ((0,), ())
        history = [(0,), (0,), (1,), (0,)]
        self.assertEqual(earliest(hall, history), [(0, 1), (0,), (0,)])
        self.assertEqual(latest(hall, history), [(0,), (0,), (0, 1)])
        self.assertEqual(spans(hall, history), [((0, 1), 0, 0), ((0, 2), 1, 1), ((0, 3), 2, 2), ((1, 1), 0, 2)])
        self.assertEqual(fewest(hall, history), (4, 3))

    def test_a_ring_called_at_once_stays_together(self):
        for beat in range(3):
            history = [(0, 1)] * (beat + 1)
            self.assertEqual(earliest(samples.SWAP, history), history)
            self.assertEqual(latest(samples.SWAP, history), history)
        self.assertEqual(earliest(samples.TRIANGLE, [(), (0, 1, 2), ()]), [(0, 1, 2)])

    def test_of_nothing_needed_no_beats(self):
        for hall, history, watched in (
            (samples.LINE, [], None), (samples.LINE, [(), ()], None), (samples.LINE, STAIRS, []),
            (samples.LINE, [(0,)], [1]), (samples.NOBODY, [], [0]),
        ):
            self.assertEqual(earliest(hall, history, watched=watched), [])
            self.assertEqual(latest(hall, history, watched=watched), [])
            self.assertEqual(fewest(hall, history, watched=watched), (0, 0))
            self.assertEqual(spans(hall, history, watched=watched), [])
            self.assertEqual(chain(hall, history, watched=watched), [])

    def test_watched(self):
        history = [(0,), (1,), (2,), (0,), (1,)]
        self.assertEqual(earliest(samples.LINE, history, watched=[1]), [(0,), (1,)])
        self.assertEqual(earliest(samples.LINE, history, watched=[0]), [(0,)])
        self.assertEqual(earliest(samples.LINE, [(2,), (0,), (1,)], watched=[2]), [(2,)])

    def test_moved_one_by_one(self):
        for hall, history in questions():
            for watched in samples.watched_choices(hall):
                rows = plain_spans(hall, history, watched)
                early = laying([(call, first) for call, first, last in rows])
                late = laying([(call, last) for call, first, last in rows])
                self.assertEqual(spans(hall, history, watched=watched), rows)
                self.assertEqual(earliest(hall, history, watched=watched), early)
                self.assertEqual(latest(hall, history, watched=watched), late)
                self.assertEqual(fewest(hall, history, watched=watched), (len(rows), len(early)))

    def test_both_are_kept_and_alike(self):
        for hall, history in questions() + [samples.full_question(seed) for seed in range(5)]:
            for watched in samples.watched_choices(hall):
                early = earliest(hall, history, watched=watched)
                late = latest(hall, history, watched=watched)
                self.assertEqual(len(early), len(late))
                for told in (early, late):
                    self.assertIs(is_history(hall, told), True)
                    self.assertNotIn((), told)
                    self.assertIs(keeps(hall, history, told, watched=watched), True)
                    self.assertIs(are_alike(hall, history, told, watched=watched), True)

    def test_at_the_earliest_and_the_latest_of_all_that_are_kept(self):
        for hall, histories in samples.deeper_pairs():
            for history in histories[::2]:
                kept = [thing for thing in histories if keeps(hall, history, thing)]
                many = min(len(thing) for thing in kept)
                beats = [slow.beats_of(thing) for thing in kept]
                within = [slow.beats_of(thing) for thing in kept if len(thing) == many]
                right = [
                    (call, min(row[call] for row in beats), max(row[call] for row in within))
                    for call in needed(hall, history)
                ]
                self.assertEqual(spans(hall, history), right)
                self.assertEqual(fewest(hall, history)[1], many)

    def test_no_alike_history_has_fewer(self):
        for hall, histories in samples.deeper_pairs():
            for watched in samples.watched_choices(hall):
                groups = {}
                for history in histories:
                    groups.setdefault(slow.watched_trees(hall, history, watched), []).append(history)
                for group in groups.values():
                    calls = min(calls_in(history) for history in group)
                    beats = min(len(history) for history in group)
                    for history in group[::5]:
                        self.assertEqual(fewest(hall, history, watched=watched), (calls, beats))
                        told = earliest(hall, history, watched=watched)
                        for person in range(len(hall)):
                            own = min(sum(person in beat for beat in other) for other in group)
                            self.assertEqual(sum(person in beat for beat in told), own)

    def test_alike_just_where_earliest_layings_are_one(self):
        for hall, histories in samples.deeper_pairs():
            for watched in samples.watched_choices(hall):
                groups = {}
                layings = {}
                for history in histories:
                    tree = slow.watched_trees(hall, history, watched)
                    told = tuple(earliest(hall, history, watched=watched))
                    self.assertEqual(groups.setdefault(tree, told), told)
                    self.assertEqual(layings.setdefault(told, tree), tree)
        for hall, one, other in samples.drawn_pairs(300, (3, 8), 12):
            for watched in samples.watched_choices(hall):
                same = earliest(hall, one, watched=watched) == earliest(hall, other, watched=watched)
                self.assertIs(same, are_alike(hall, one, other, watched=watched))

    def test_told_twice_it_is_as_told_once(self):
        for hall, history in questions() + [samples.full_question(seed) for seed in range(5)]:
            for watched in samples.watched_choices(hall):
                early = earliest(hall, history, watched=watched)
                late = latest(hall, history, watched=watched)
                for told in (early, late):
                    self.assertEqual(earliest(hall, told, watched=watched), early)
                    self.assertEqual(latest(hall, told, watched=watched), late)

    def test_full_halls(self):
        everyone = (tuple(range(8)),) * 8
        history = [tuple(range(5))] * 60
        self.assertEqual(earliest(everyone, history), history)
        self.assertEqual(fewest(everyone, history), (300, 60))
        line = tuple(tuple(range(one)) for one in range(8))
        self.assertEqual(fewest(line, [(one,) for one in range(8)] * 7), (8, 8))

    def test_what_was_told_may_be_handed_in_again(self):
        hall, history = samples.full_question()
        long = earliest(hall, history * 6)
        self.assertEqual(earliest(hall, long), long)

    def test_in_all_ways_of_asking(self):
        for function in (earliest, latest, fewest, chain, spans):
            for hall, history in samples.drawn_questions(20):
                asked = {"hall": hall, "history": history}
                asking.check_question(self, function, asked)
                asking.check_question(self, function, {**asked, "watched": [0, 2]})
            self.assertRaises(TypeError, function, samples.NOBODY, [], None)

    def test_kinds(self):
        kinds = samples.kinds_of
        self.assertEqual(kinds(fewest(samples.LINE, STAIRS)), kinds((3, 3)))
        self.assertEqual(kinds(spans(samples.LINE, STAIRS)), kinds([((0, 0), 0, 0)] * 3))
        self.assertEqual(kinds(chain(samples.LINE, STAIRS)), kinds([(0, 1), (1, 1), (2, 1)]))
        self.assertEqual(kinds(earliest(samples.LINE, STAIRS)), kinds(STAIRS))


class Chain(unittest.TestCase):
    def test_told_ones(self):
        self.assertEqual(chain(samples.LINE, STAIRS), [(0, 1), (1, 1), (2, 1)])
        self.assertEqual(chain(samples.ITSELF, [(0,)] * 3), [(0, 1), (0, 2), (0, 3)])

    def test_a_chain_that_shows_it(self):
        for hall, history in questions():
            for watched in samples.watched_choices(hall):
                told = chain(hall, history, watched=watched)
                self.assertTrue(is_plain_chain(hall, history, told, watched))
                self.assertIs(shows_chain(hall, history, told, watched=watched), True)
                self.assertEqual(told == [], needed(hall, history, watched=watched) == [])

    def test_full_halls(self):
        for seed in range(5):
            hall, history = samples.full_question(seed)
            for watched in samples.watched_choices(hall):
                told = chain(hall, history, watched=watched)
                steps = {row[:2]: row[2] for row in bounds(hall, history, watched=watched)}
                total = sum(steps[link] for link in zip(told, told[1:]))
                self.assertEqual(total, max(0, fewest(hall, history, watched=watched)[1] - 1))
                self.assertIs(shows_chain(hall, history, told, watched=watched), True)

    def test_through_rings_called_at_once(self):
        history = [(0, 1)] * 30
        told = chain(samples.SWAP, history)
        self.assertIs(shows_chain(samples.SWAP, history, told), True)


class ShowsChain(unittest.TestCase):
    def test_told_ones(self):
        self.assertIs(shows_chain(samples.LINE, STAIRS, [(0, 1), (1, 1), (2, 1)]), True)
        for thing in (
            [], [(0, 1)], [(0, 1), (1, 1)], [(1, 1), (2, 1)], [(0, 1), (2, 1)], [(2, 1), (1, 1), (0, 1)],
            [(0, 1), (1, 1), (2, 2)], [(0, 1), (1, 1), (2, 1), (2, 2)], [(0, 1), (1, 1), (1, 1), (2, 1)],
            ((0, 1), (1, 1), (2, 1)), [[0, 1], [1, 1], [2, 1]], [(0, 1), (1, 1), [2, 1]], [(0, True), (1, 1), (2, 1)],
            [(False, 1), (1, 1), (2, 1)], [(0, 1), (True, 1), (2, 1)], [(0, 1, 1), (1, 1), (2, 1)], [(0,), (1, 1), (2, 1)],
            [None, (1, 1), (2, 1)], ["01", (1, 1), (2, 1)], None, True, 0, "", (), [()], [0, 1, 2],
            [(0, 0), (0, 1), (1, 1), (2, 1)], [(-1, 1), (1, 1), (2, 1)], [(0, "1"), (1, 1), (2, 1)],
            [((0, 1), (1, 1), (2, 1))], [((0, 1), (1, 1), 1), ((1, 1), (2, 1), 1)],
        ):
            self.assertIs(shows_chain(samples.LINE, STAIRS, thing), False, thing)

    def test_a_bare_list_just_where_nothing_is_needed(self):
        self.assertIs(shows_chain(samples.LINE, [()], []), True)
        self.assertIs(shows_chain(samples.LINE, STAIRS, [], watched=[]), True)
        self.assertIs(shows_chain(samples.LINE, STAIRS, []), False)
        self.assertIs(shows_chain(samples.LINE, [()], ()), False)
        self.assertIs(shows_chain(samples.LINE, [()], [(0, 1)]), False)

    def test_of_one_beat_any_call_by_itself(self):
        history = [(0, 1, 2)]
        for person in range(3):
            self.assertIs(shows_chain(samples.LINE, history, [(person, 1)]), True)
        self.assertIs(shows_chain(samples.LINE, history, [(2, 1), (1, 1), (0, 1)]), True)
        self.assertIs(shows_chain(samples.LINE, history, [(0, 1), (1, 1)]), False)

    def test_steps_of_nought_may_be_gone_around(self):
        around = [(0, 1), (1, 1)] * 20
        self.assertIs(shows_chain(samples.SWAP, [(0, 1)], around), True)
        self.assertIs(shows_chain(samples.SWAP, [(0, 1)], around + [(1, 1)]), False)

    def test_of_all_short_lists(self):
        for hall, history in samples.drawn_questions(25, (2, 3), 4):
            for watched in (None, [0], [1]):
                calls = needed(hall, history) + [(0, 9)]
                for size in range(4):
                    for row in itertools.product(calls, repeat=size):
                        right = is_plain_chain(hall, history, list(row), watched)
                        self.assertIs(shows_chain(hall, history, list(row), watched=watched), right)

    def test_of_anything(self):
        for hall, history in ((samples.LINE, STAIRS), (samples.SWAP, [(0,), (0, 1), (1,)])):
            for thing in samples.variants(chain(hall, history)):
                before = copy.deepcopy(thing)
                told = shows_chain(hall, history, thing)
                self.assertIs(told, is_plain_chain(hall, history, thing), thing)
                self.assertEqual(repr(thing), repr(before))

    def test_in_all_ways_of_asking(self):
        asked = {"hall": samples.LINE, "history": STAIRS, "thing": [(0, 1), (1, 1)]}
        self.assertIs(asking.check_question(self, shows_chain, asked), False)
        self.assertIs(asking.check_question(self, shows_chain, {**asked, "watched": [1]}), True)
        self.assertRaises(TypeError, shows_chain, samples.NOBODY, [], [], None)


if __name__ == "__main__":
    unittest.main()

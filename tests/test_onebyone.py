"""onebyone.py: point [14], and [1] (d)."""

import copy
import itertools
import math
import unittest

import asking
import samples
import slow
from looktrails.alike import are_alike
from looktrails.errors import NoRow, TooMany
from looktrails.halls import calls_in, is_history
from looktrails.least import earliest
from looktrails.onebyone import as_history, one_by_one, row_at, rows_many, shows_ring
from looktrails.order import keeps, needed
from looktrails.rings import is_ring

FREE = ((),) * 8
SELF_AND_NEXT = ((0, 1), (0, 1))


def few_calls(histories, most):
    return [history for history in histories if calls_in(history) <= most]


def ring_beats(hall, laying):
    """The beats at which a RING of two or more is called, each with all such RINGs."""
    found = {}
    for beat, persons in enumerate(laying):
        for size in range(2, len(persons) + 1):
            for ring in itertools.permutations(persons, size):
                if slow.is_ring(hall, ring):
                    found.setdefault(beat, []).append(ring)
    return found


class AsHistory(unittest.TestCase):
    def test_told_ones(self):
        self.assertEqual(as_history([]), [])
        self.assertEqual(as_history([2, 0, 0]), [(2,), (0,), (0,)])
        self.assertEqual(as_history((1, 1)), [(1,), (1,)])

    def test_its_beats_are_tuples(self):
        for row in slow.all_rows(3, 4):
            told = as_history(row)
            self.assertIs(is_history(samples.LINE, told), True)
            self.assertEqual([beat[0] for beat in told], row)

    def test_in_all_ways_of_asking(self):
        for row in ([], [0], [1, 0, 1], [0] * 31):
            asking.check_question(self, as_history, {"row": row})


class OneByOne(unittest.TestCase):
    def check(self, hall, history, groups, watched=None):
        """Holds what's told against all ROWs that are alike."""
        told = one_by_one(hall, history, watched=watched)
        rows = groups.get(slow.watched_trees(hall, history, watched))
        if rows:
            self.assertEqual(told, ("row", rows[0]), (hall, history, watched))
            return
        word, beat, ring = told
        self.assertEqual(word, "ring")
        self.assertIs(type(told), tuple)
        rings = ring_beats(hall, earliest(hall, history, watched=watched))
        self.assertEqual(beat, min(rings))
        self.assertIn(ring, rings[beat])

    def check_rings(self, hall, history, watched=None):
        """A ring is told just where one is called in one beat of the earliest laying."""
        rings = ring_beats(hall, earliest(hall, history, watched=watched))
        self.assertEqual(one_by_one(hall, history, watched=watched)[0] == "ring", bool(rings))

    def test_told_ones(self):
        self.assertEqual(one_by_one(samples.LINE, [(2,), (1,), (0,)]), ("row", [2, 1, 0]))
        self.assertEqual(one_by_one(samples.LINE, [(0, 1, 2)]), ("row", [2, 1, 0]))
        self.assertEqual(one_by_one(FREE, [(5,), (2, 3), (5,)]), ("row", [2, 3, 5]))
        self.assertEqual(one_by_one(samples.SWAP, [(1,), (), (0,), (0, 1)]), ("row", [1, 0, 1]))
        self.assertEqual(one_by_one(samples.SWAP, [(0,), (1,)]), ("row", [0, 1]))

    def test_a_ring_that_is_told_is_one_of_two_or_more(self):
        word, beat, ring = one_by_one(samples.TRIANGLE, [(0, 1, 2)])
        self.assertEqual((word, beat, sorted(ring)), ("ring", 0, [0, 1, 2]))
        self.assertIs(is_ring(samples.TRIANGLE, ring), True)
        word, beat, ring = one_by_one(SELF_AND_NEXT, [(1,), (0,), (0, 1), (0, 1)])
        self.assertEqual((word, beat, sorted(ring)), ("ring", 2, [0, 1]))

    def test_where_nothing_is_needed(self):
        for hall, history, watched in (
            (samples.LINE, [], None), (samples.LINE, [(), ()], None), (samples.SWAP, [(0, 1)], []),
            (samples.LINE, [(2,), (1,)], [0]),
        ):
            self.assertEqual(one_by_one(hall, history, watched=watched), ("row", []))

    def test_one_who_sees_itself_bars_nothing(self):
        self.assertEqual(one_by_one(samples.ITSELF, [(0,), (0,)]), ("row", [0, 0]))
        self.assertEqual(one_by_one(((0,), (1,)), [(0, 1), (0, 1)]), ("row", [0, 0, 1, 1]))
        self.assertEqual(one_by_one(((0, 1), (1,)), [(0, 1), (0, 1)]), ("row", [0, 1, 0, 1]))

    def test_a_ring_that_is_not_needed_bars_nothing(self):
        self.assertEqual(one_by_one(samples.SWAP, [(0, 1), (0,)]), ("row", [1, 0]))
        self.assertEqual(one_by_one(((1,), (0,), ()), [(0, 1), (2,)], watched=[2]), ("row", [2]))
        self.assertEqual(one_by_one(samples.SWAP, [(0, 1)], watched=[0]), ("row", [0]))

    def test_all_of_one_and_two_persons(self):
        for hall, histories, longest in [(hall, samples.all_histories(1, 4), 4) for hall in samples.all_halls(1)] + [
            (hall, samples.all_histories(2, 3), 6) for hall in samples.all_halls(2)
        ]:
            for watched in samples.watched_choices(hall):
                groups = slow.rows_by_trees(hall, longest, watched)
                for history in histories:
                    self.check(hall, history, groups, watched)
                    self.check_rings(hall, history, watched)

    def test_all_of_three_persons_and_four_calls(self):
        histories = few_calls(samples.all_histories(3, 2), 4)
        for hall in samples.all_halls(3):
            groups = slow.rows_by_trees(hall, 4)
            for history in histories:
                self.check(hall, history, groups)

    def test_three_persons_and_some_of_them_watched(self):
        histories = samples.all_histories(3, 2)
        for hall in samples.all_halls(3)[5::37] + [samples.TRIANGLE, samples.ALL_SEE_ALL]:
            for watched in samples.watched_choices(hall):
                groups = slow.rows_by_trees(hall, 6, watched)
                for history in histories:
                    self.check(hall, history, groups, watched)

    def test_larger_ones_are_alike_and_of_fewest_calls(self):
        met = {"row": 0, "ring": 0}
        drawn = samples.drawn_questions(200, (3, 8), 12)
        for hall, history in drawn + [samples.full_question(seed) for seed in range(4)]:
            for watched in samples.watched_choices(hall):
                told = one_by_one(hall, history, watched=watched)
                met[told[0]] += 1
                self.check_rings(hall, history, watched)
                if told[0] == "row":
                    self.assertIs(keeps(hall, history, as_history(told[1]), watched=watched), True)
                    self.assertIs(are_alike(hall, history, as_history(told[1]), watched=watched), True)
                else:
                    self.assertIs(shows_ring(hall, history, told, watched=watched), True)
        self.assertGreater(min(met.values()), 100)

    def test_a_row_is_told_of_any_row(self):
        for hall, history in samples.drawn_questions(100, (3, 8), 12):
            row = [person for beat in history for person in beat]
            self.assertEqual(one_by_one(hall, as_history(row))[0], "row")

    def test_in_all_ways_of_asking(self):
        for hall, history in samples.drawn_questions(30) + [(samples.SWAP, [(0, 1), (1,)])]:
            asking.check_question(self, one_by_one, {"hall": hall, "history": history})
            asking.check_question(self, one_by_one, {"hall": hall, "history": history, "watched": [0, 1]})
        self.assertRaises(TypeError, one_by_one, samples.NOBODY, [], None)


class ShowsRing(unittest.TestCase):
    HALL = ((1, 2), (0, 1), (0, 1), (2,))
    HISTORY = [(3,), (0, 1, 2), (), (3,), (0, 1, 2)]

    def right(self, hall, history, thing, watched=None):
        if type(thing) is not tuple or len(thing) != 3 or type(thing[0]) is not str or thing[0] != "ring":
            return False
        if type(thing[1]) is not int or not slow.is_ring(hall, thing[2]):
            return False
        rings = ring_beats(hall, earliest(hall, history, watched=watched))
        return thing[2] in rings.get(thing[1], [])

    def test_of_any_such_beat(self):
        met = 0
        told = [(self.HALL, self.HISTORY), (samples.ALL_SEE_ALL, [(0, 1, 2)] * 4)]
        for hall, history in told + samples.drawn_questions(60, (2, 4), 5):
            for watched in (None, [0], [0, 1]):
                rings = ring_beats(hall, earliest(hall, history, watched=watched))
                for beat in range(len(history) + 2):
                    for size in range(1, len(hall) + 1):
                        for ring in itertools.permutations(range(len(hall)), size):
                            right = ring in rings.get(beat, [])
                            met += right
                            told = shows_ring(hall, history, ("ring", beat, ring), watched=watched)
                            self.assertIs(told, right)
        self.assertGreater(met, 20)

    def test_both_ways_around_and_from_any_one(self):
        for ring in ((0, 1, 2), (1, 2, 0), (2, 0, 1), (0, 2, 1), (2, 1, 0), (1, 0, 2)):
            right = slow.is_ring(self.HALL, ring)
            self.assertIs(shows_ring(self.HALL, [(0, 1, 2)], ("ring", 0, ring)), right)

    def test_wrong_ones(self):
        hall, history = self.HALL, self.HISTORY
        beat = min(ring_beats(hall, earliest(hall, history)))
        self.assertIs(shows_ring(hall, history, ("ring", beat, (0, 1))), True)
        for thing in (
            ["ring", beat, (0, 1)], ("ring", beat, [0, 1]), ("row", beat, (0, 1)), ("ring", beat),
            ("ring", beat, (0, 1), None), ("ring", beat, (1,)), ("ring", beat, ()), ("ring", 99, (0, 1)),
            ("ring", -1, (0, 1)), ("ring", True, (0, 1)), ("ring", None, (0, 1)), ("ring", "1", (0, 1)),
            ("ring", beat, (False, 1)), ("ring", beat, (0, True)), ("ring", beat, (3, 2)), ("ring", beat, (0, 1, 0, 1)),
            ("ring", 10**30, (0, 1)), ("ring", beat, (0, 9)), ("ring", (beat,), (0, 1)), (("ring",), beat, (0, 1)),
            (["ring"], beat, (0, 1)), None, True, 0, "ring", (), [], ("row", [0, 1]),
        ):
            self.assertIs(shows_ring(hall, history, thing), False, thing)

    def test_truths_for_the_beats_nought_and_one(self):
        self.assertIs(shows_ring(samples.SWAP, [(0, 1)] * 2, ("ring", 1, (0, 1))), True)
        self.assertIs(shows_ring(samples.SWAP, [(0, 1)] * 2, ("ring", True, (0, 1))), False)
        self.assertIs(shows_ring(samples.SWAP, [(0, 1)] * 2, ("ring", False, (0, 1))), False)

    def test_of_anything_and_the_thing_stays(self):
        for hall, history in ((samples.SWAP, [(0, 1), (0, 1)]), (samples.LINE, [(0, 1, 2)])):
            for thing in samples.variants(("ring", 0, (0, 1))):
                before = copy.deepcopy(thing)
                self.assertIs(shows_ring(hall, history, thing), self.right(hall, history, thing), thing)
                self.assertEqual(repr(thing), repr(before))

    def test_never_where_a_row_is_alike(self):
        for hall, history in samples.drawn_questions(60, (2, 4), 4):
            if one_by_one(hall, history)[0] == "row":
                for beat in range(5):
                    for ring in itertools.permutations(range(len(hall)), 2):
                        self.assertIs(shows_ring(hall, history, ("ring", beat, ring)), False)

    def test_watched(self):
        hall, history = ((1,), (0,), ()), [(0, 1), (2,)]
        self.assertIs(shows_ring(hall, history, ("ring", 0, (0, 1))), True)
        self.assertIs(shows_ring(hall, history, ("ring", 0, (0, 1)), watched=[0, 1]), True)
        for watched in ([], [0], [1], [2], [0, 2]):
            self.assertIs(shows_ring(hall, history, ("ring", 0, (0, 1)), watched=watched), False)

    def test_in_all_ways_of_asking(self):
        asked = {"hall": samples.SWAP, "history": [(0, 1)], "thing": ("ring", 0, (1, 0))}
        self.assertIs(asking.check_question(self, shows_ring, asked), True)
        self.assertIs(asking.check_question(self, shows_ring, {**asked, "watched": [0]}), False)
        self.assertRaises(TypeError, shows_ring, samples.NOBODY, [], (), None)


class Rows(unittest.TestCase):
    def check(self, hall, history, groups, watched=None):
        rows = groups.get(slow.watched_trees(hall, history, watched), [])
        self.assertEqual(rows_many(hall, history, watched=watched), len(rows))
        for number, row in enumerate(rows):
            self.assertEqual(row_at(hall, history, number, watched=watched), row)
        for number in (len(rows), len(rows) + 1, 10**30):
            with self.assertRaises(NoRow) as refusal:
                row_at(hall, history, number, watched=watched)
            self.assertEqual(refusal.exception.number, number)

    def test_all_of_two_persons(self):
        for hall in samples.all_halls(2):
            for watched in samples.watched_choices(hall):
                groups = slow.rows_by_trees(hall, 6, watched)
                for history in samples.all_histories(2, 3):
                    self.check(hall, history, groups, watched)

    def test_three_persons(self):
        histories = few_calls(samples.all_histories(3, 2), 4)
        for hall in samples.all_halls(3)[::5]:
            groups = slow.rows_by_trees(hall, 4)
            for history in histories:
                self.check(hall, history, groups)

    def test_three_persons_and_some_of_them_watched(self):
        for hall in samples.all_halls(3)[3::101] + [((), (), ()), samples.LINE]:
            for watched in samples.watched_choices(hall):
                groups = slow.rows_by_trees(hall, 6, watched)
                for history in samples.all_histories(3, 2):
                    self.check(hall, history, groups, watched)

    def test_none_of_a_history_with_a_ring(self):
        self.assertEqual(rows_many(samples.SWAP, [(0, 1)]), 0)
        self.assertEqual(rows_many(samples.SWAP, [(0, 1)], watched=[1]), 1)
        self.assertRaises(NoRow, row_at, samples.SWAP, [(0, 1)], 0)

    def test_where_nothing_is_needed_one_bare_row(self):
        for hall, history, watched in ((samples.LINE, [], None), (samples.SWAP, [(0, 1)], [])):
            self.assertEqual(rows_many(hall, history, watched=watched), 1)
            self.assertEqual(row_at(hall, history, 0, watched=watched), [])
            self.assertRaises(NoRow, row_at, hall, history, 1, watched=watched)

    def test_the_first_is_what_one_by_one_tells(self):
        met = 0
        for hall, history in samples.drawn_questions(200, (3, 6), 5):
            if len(needed(hall, history)) <= 12 and one_by_one(hall, history)[0] == "row":
                met += 1
                self.assertEqual(row_at(hall, history, 0), one_by_one(hall, history)[1])
        self.assertGreater(met, 50)

    def test_many(self):
        self.assertEqual(rows_many(FREE, [tuple(range(8))]), math.factorial(8))
        self.assertEqual(row_at(FREE, [tuple(range(8))], math.factorial(8) - 1), [7, 6, 5, 4, 3, 2, 1, 0])
        hall = ((0,), (1,), (2,), (3,))
        history = [(0, 1, 2, 3)] * 3
        many = math.factorial(12) // 6**4
        self.assertEqual(rows_many(hall, history), many)
        self.assertEqual(row_at(hall, history, 0), [0, 0, 0, 1, 1, 1, 2, 2, 2, 3, 3, 3])
        self.assertEqual(row_at(hall, history, many - 1), [3, 3, 3, 2, 2, 2, 1, 1, 1, 0, 0, 0])
        self.assertRaises(NoRow, row_at, hall, history, many)

    def test_rows_rise_and_keep(self):
        for hall, history in samples.drawn_questions(60, (4, 6), 3):
            if len(needed(hall, history)) > 12:
                continue
            many = rows_many(hall, history)
            numbers = {0, 1, 2, many // 3, many // 2, many - 2, many - 1} & set(range(many))
            rows = [row_at(hall, history, number) for number in sorted(numbers)]
            self.assertEqual(rows, sorted(rows))
            for row in rows:
                self.assertIs(keeps(hall, history, as_history(row)), True)

    def test_too_many_ahead_of_all(self):
        self.assertEqual(rows_many(samples.ITSELF, [(0,)] * 12), 1)
        self.assertEqual(row_at(samples.ITSELF, [(0,)] * 12, 0), [0] * 12)
        for hall, history, many in (
            (samples.ITSELF, [(0,)] * 13, 13), (samples.ITSELF, [(0,)] * 60, 60),
            (samples.SWAP, [(0, 1)] * 7, 14), (((0,), (0,)), [(0,)] * 14, 14),
        ):
            for asked in (lambda: rows_many(hall, history), lambda: row_at(hall, history, 0),
                          lambda: row_at(hall, history, 10**9)):
                with self.assertRaises(TooMany) as refusal:
                    asked()
                self.assertEqual(refusal.exception.many, many)

    def test_too_many_counts_what_is_needed_for_those_watched(self):
        hall = ((0,), ())
        self.assertEqual(rows_many(hall, [(0, 1)] * 20, watched=[1]), 1)
        self.assertEqual(rows_many(samples.NOBODY, [(0,)] * 60), 1)
        with self.assertRaises(TooMany) as refusal:
            rows_many(hall, [(0, 1)] * 20)
        self.assertEqual(refusal.exception.many, 21)

    def test_in_all_ways_of_asking(self):
        for hall, history in samples.drawn_questions(20, (3, 4), 3):
            asked = {"hall": hall, "history": history}
            many = asking.check_question(self, rows_many, asked)
            asking.check_question(self, rows_many, {**asked, "watched": [0, 2]})
            if many:
                asking.check_question(self, row_at, {**asked, "number": many - 1})
            asking.check_question(self, row_at, {**asked, "number": 0, "watched": [0]})
        self.assertRaises(TypeError, rows_many, samples.NOBODY, [], None)
        self.assertRaises(TypeError, row_at, samples.NOBODY, [], 0, None)


if __name__ == "__main__":
    unittest.main()

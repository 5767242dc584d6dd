"""ends.py: the second part of point [17]."""

import itertools
import unittest

import asking
import samples
import slow
from looktrails.alike import are_alike
from looktrails.ends import ends, ends_many, settled
from looktrails.errors import Endless, TooMany
from looktrails.halls import beside
from looktrails.joint import likes
from looktrails.onebyone import as_history, one_by_one
from looktrails.rings import is_ring, ring_among, seen_first

JUST_ENOUGH = ((), (), (), (1, 2), (3,), (3,))
ONE_MORE = ((), (0,), (1,), (2,), (0, 1, 3))
ALL_AHEAD = tuple(tuple(range(person)) for person in range(8))


def has_ring(hall):
    return any(
        slow.is_ring(hall, ring)
        for size in range(1, len(hall) + 1)
        for ring in itertools.permutations(range(len(hall)), size)
    )


def ringless_halls(many):
    return [hall for hall in samples.all_halls(many) if not has_ring(hall)]


def falling_halls(many):
    """All halls in which each sees only some of those ahead of it."""
    return list(itertools.product(*[samples.subsets(person) for person in range(many)]))


def all_states(hall):
    """The last trees of all histories, found beat by beat."""
    start = slow.last_trees(hall, [])
    met = {start}
    queue = [start]
    while queue:
        trees = queue.pop()
        for beat in samples.subsets(len(hall)):
            reached = tuple(
                slow.called(hall, trees, person)[person] if person in beat else trees[person]
                for person in range(len(hall))
            )
            if reached not in met:
                met.add(reached)
                queue.append(reached)
    return met


def first_rows(hall, longest):
    """The first ROW of fewest calls to each end that ROWs of up to so many calls come to."""
    groups = slow.rows_by_trees(hall, longest)
    return sorted([rows[0] for rows in groups.values()], key=lambda row: (len(row), row))


class Settled(unittest.TestCase):
    def test_told_ones(self):
        self.assertEqual(settled(samples.LINE), [0, 1, 2])
        self.assertEqual(settled(((1,), (2,), ())), [2, 1, 0])
        self.assertEqual(settled(((2,), (), ())), [1, 2, 0])
        self.assertEqual(settled(samples.NOBODY), [0])
        self.assertEqual(settled(((),) * 8), list(range(8)))
        self.assertEqual(settled(ALL_AHEAD), list(range(8)))

    def test_against_all_rows(self):
        for hall in ringless_halls(1) + ringless_halls(2) + ringless_halls(3):
            still = [
                row
                for row, trees in slow.row_trees(hall, len(hall))
                if all(slow.called(hall, trees, person) == trees for person in range(len(hall)))
            ]
            self.assertEqual(settled(hall), min(still, key=lambda row: (len(row), row)), hall)

    def test_larger_ones(self):
        for hall in samples.some_halls(200):
            hall = tuple(tuple(seen for seen in row if seen > person) for person, row in enumerate(hall))
            row = settled(hall)
            self.assertEqual(row, seen_first(hall))
            for person in range(len(hall)):
                self.assertIs(are_alike(hall, as_history(row), as_history(row + [person])), True)

    def test_in_all_ways_of_asking(self):
        for hall in ringless_halls(3)[::3]:
            asking.check_question(self, settled, {"hall": hall})


class Ends(unittest.TestCase):
    def test_told_ones(self):
        self.assertEqual(ends(samples.NOBODY), [[], [0]])
        self.assertEqual(ends(((), ())), [[], [0], [1], [0, 1]])
        self.assertEqual(ends(((), (0,))), [[], [0], [1], [0, 1], [1, 0]])
        self.assertEqual(ends(((1,), ())), [[], [0], [1], [0, 1], [1, 0]])
        self.assertEqual(ends_many(((), (0,))), 5)
        self.assertEqual(ends_many(samples.LINE), 14)

    def test_the_order_of_the_told_rows(self):
        for hall in ringless_halls(3) + [ALL_AHEAD[:4]]:
            told = ends(hall)
            self.assertEqual(told, sorted(told, key=lambda row: (len(row), row)))
            self.assertEqual(told[0], [])

    def test_against_all_rows(self):
        for hall in ringless_halls(1) + ringless_halls(2) + ringless_halls(3):
            self.assertEqual(ends(hall), first_rows(hall, 5), hall)
            self.assertEqual(ends_many(hall), len(ends(hall)))

    def test_against_all_rows_of_some_halls_of_four(self):
        for hall in falling_halls(4)[::7]:
            self.assertEqual(ends(hall), first_rows(hall, 6), hall)

    def test_against_all_histories(self):
        for hall in ringless_halls(2) + ringless_halls(3) + falling_halls(4):
            self.assertEqual(ends_many(hall), len(all_states(hall)), hall)

    def test_each_is_the_first_row_of_its_own(self):
        for hall in falling_halls(4)[::5] + [JUST_ENOUGH]:
            told = ends(hall)
            self.assertEqual(likes(hall, [as_history(row) for row in told]), [[place] for place in range(len(told))])
            for row in told:
                self.assertEqual(one_by_one(hall, as_history(row)), ("row", row))

    def test_every_history_is_alike_to_one_of_them(self):
        for hall in ringless_halls(3)[::4]:
            told = ends(hall)
            for history in samples.all_histories(3, 2):
                self.assertIn(one_by_one(hall, history)[1], told)

    def test_the_settled_one_is_among_them(self):
        for hall in ringless_halls(3):
            self.assertIn(settled(hall), ends(hall))

    def test_none_sees_any(self):
        for many in range(1, 9):
            self.assertEqual(ends_many(((),) * many), 2**many)
            rows = [list(row) for row in samples.subsets(many)]
            self.assertEqual(ends(((),) * many), rows)

    def test_halls_beside_one_another(self):
        for one in ringless_halls(2):
            for other in ringless_halls(2) + ringless_halls(1):
                many = ends_many(one) * ends_many(other)
                self.assertEqual(ends_many(beside(one, other)), many)

    def test_in_all_ways_of_asking(self):
        for hall in ringless_halls(3)[::3]:
            asking.check_question(self, ends, {"hall": hall})
            asking.check_question(self, ends_many, {"hall": hall})


class Refused(unittest.TestCase):
    def refused(self, kind, function, hall):
        with self.assertRaises(kind) as refusal:
            function(hall)
        return refusal.exception

    def test_too_many(self):
        self.assertEqual(len(all_states(JUST_ENOUGH)), 300)
        self.assertEqual(ends_many(JUST_ENOUGH), 300)
        self.assertEqual(len(ends(JUST_ENOUGH)), 300)
        self.assertEqual(len(all_states(ONE_MORE)), 301)
        self.assertEqual(settled(ONE_MORE), [0, 1, 2, 3, 4])
        for hall in (ONE_MORE, ALL_AHEAD, ((),) * 9, beside(((),) * 8, ((),) * 8)):
            self.assertEqual(self.refused(TooMany, ends, hall).many, 300)
            self.assertEqual(self.refused(TooMany, ends_many, hall).many, 300)

    def test_endless(self):
        for hall in samples.small_halls():
            if has_ring(hall):
                for function in (settled, ends, ends_many):
                    ring = self.refused(Endless, function, hall).ring
                    self.assertIs(is_ring(hall, ring), True)
            else:
                self.assertIsNone(ring_among(hall, list(range(len(hall)))))
                self.assertEqual(sorted(settled(hall)), list(range(len(hall))))

    def test_one_who_sees_itself_is_a_ring(self):
        self.assertEqual(self.refused(Endless, settled, ((), (1,))).ring, (1,))
        self.assertEqual(self.refused(Endless, ends, samples.ITSELF).ring, (0,))

    def test_endless_ahead_of_too_many(self):
        hall = ((),) * 7 + ((7,),)
        for wide in (hall, beside(ALL_AHEAD, hall), beside(hall, ALL_AHEAD)):
            self.refused(Endless, ends, wide)
            self.refused(Endless, ends_many, wide)


if __name__ == "__main__":
    unittest.main()

"""rings.py: point [5]."""

import copy
import itertools
import unittest

import samples
from looktrails.halls import beside
from looktrails.rings import is_ring, ring_among, ringless, seen_first


def all_rings(hall):
    """All rings of a small hall, found by trying every row of unlike persons."""
    return [
        row
        for size in range(1, len(hall) + 1)
        for row in itertools.permutations(range(len(hall)), size)
        if all(row[(place + 1) % size] in hall[row[place]] for place in range(size))
    ]


def come_to(hall, person):
    """That person and all who are come to from it along sights."""
    found = {person}
    for step in hall:
        found |= {seen for one in found for seen in hall[one]}
    return found


def plain_ringless(hall):
    in_rings = {person for ring in all_rings(hall) for person in ring}
    return [one for one in range(len(hall)) if not come_to(hall, one) & in_rings]


def plain_seen_first(hall):
    """The first of all rows of the ringless in which each is behind all it sees."""
    for row in itertools.permutations(plain_ringless(hall)):
        if all(row.index(seen) < row.index(one) for one in row for seen in hall[one]):
            return list(row)
    raise AssertionError("there is such a row in every hall")


class IsRing(unittest.TestCase):
    def test_right_ones(self):
        self.assertIs(is_ring(samples.ITSELF, (0,)), True)
        for thing in ((0, 1, 2), (1, 2, 0), (2, 0, 1)):
            self.assertIs(is_ring(samples.TRIANGLE, thing), True)
        self.assertIs(is_ring(hall=samples.WIDE, thing=(4, 5)), True)
        self.assertIs(is_ring(samples.WIDE, (7,)), True)
        self.assertIs(is_ring(samples.ALL_SEE_ALL, (2, 0, 1)), True)

    def test_wrong_ones(self):
        for thing in (
            (), [], None, True, 0, "", "012", [0, 1, 2], (0, 2, 1), (0, 1), (0,), (0, 1, 2, 0, 1, 2),
            (0, True, 2), (False, 1, 2), (0, 1, 3), (0, 1, -1), (-3, -2, -1), (0, 1, None),
            (0, 1, "2"), (0, 1, (2,)), ((0, 1, 2),), (0, 1, [2]), ([0],), (10**40,),
        ):
            self.assertIs(is_ring(samples.TRIANGLE, thing), False, thing)

    def test_no_person_twice(self):
        self.assertIs(is_ring(samples.ITSELF, (0, 0)), False)
        self.assertIs(is_ring(samples.ALL_SEE_ALL, (0, 1, 0)), False)

    def test_all_near_right_ones(self):
        for hall in samples.all_halls(2) + [samples.TRIANGLE, samples.ALL_SEE_ALL, samples.LINE]:
            rings = all_rings(hall)
            right = {repr(ring) for ring in rings}
            for start in rings + [(0,), (0, 1)]:
                for thing in samples.variants(start):
                    before = copy.deepcopy(thing)
                    self.assertIs(is_ring(hall, thing), repr(thing) in right, (hall, thing))
                    self.assertEqual(repr(thing), repr(before))

    def test_in_all_small_halls(self):
        rows = [row for size in range(4) for row in itertools.product(range(3), repeat=size)]
        for hall in samples.all_halls(3):
            right = set(all_rings(hall))
            for row in rows:
                self.assertIs(is_ring(hall, row), row in right, (hall, row))

    def test_the_hall_may_be_lists(self):
        self.assertIs(is_ring(samples.as_lists(samples.TRIANGLE), (0, 1, 2)), True)
        self.assertIs(is_ring(samples.as_lists(samples.TRIANGLE), [0, 1, 2]), False)

    def test_a_long_thing(self):
        around = tuple(((one + 1) % 1400,) for one in range(1400))
        self.assertIs(is_ring(around, tuple(range(1400))), True)
        self.assertIs(is_ring(around, tuple(range(1399))), False)
        self.assertIs(is_ring(samples.ITSELF, (0,) * 2999), False)


class RingAmong(unittest.TestCase):
    def check(self, hall, persons, rings):
        told = ring_among(hall, persons)
        inside = [ring for ring in rings if set(ring) <= set(persons)]
        if inside:
            self.assertIn(told, inside, (hall, persons))
            self.assertIs(type(told), tuple)
        else:
            self.assertIsNone(told, (hall, persons))
        return told

    def test_in_all_small_halls(self):
        for hall in samples.small_halls():
            rings = all_rings(hall)
            for persons in samples.subsets(len(hall)):
                told = self.check(hall, list(persons), rings)
                self.assertEqual(ring_among(hall, persons), told)

    def test_in_larger_halls(self):
        for hall in samples.some_halls(20):
            hall = hall[:6]
            hall = tuple(tuple(seen for seen in row if seen < len(hall)) for row in hall)
            rings = all_rings(hall)
            for persons in samples.subsets(len(hall)):
                self.check(hall, list(persons), rings)

    def test_told_ones(self):
        self.assertIsNone(ring_among(samples.LINE, [0, 1, 2]))
        self.assertIsNone(ring_among(samples.ALL_SEE_ALL, []))
        self.assertIsNone(ring_among(samples.TRIANGLE, [0, 1]))
        self.assertEqual(ring_among(samples.ITSELF, [0]), (0,))
        self.assertEqual(ring_among(samples.WIDE, [0, 1, 2, 7]), (7,))
        self.assertEqual(set(ring_among(samples.WIDE, [3, 4, 5])), {4, 5})

    def test_a_ring_seen_from_outside(self):
        self.assertEqual(ring_among(((1,), (2,), (2,)), [0, 1, 2]), (2,))

    def test_by_names_and_with_lists(self):
        hall, persons = samples.as_lists(samples.TRIANGLE), [0, 1, 2]
        told = ring_among(persons=persons, hall=hall)
        self.assertIs(is_ring(samples.TRIANGLE, told), True)
        self.assertEqual(hall, samples.as_lists(samples.TRIANGLE))
        self.assertEqual(persons, [0, 1, 2])
        self.assertEqual(ring_among(samples.TRIANGLE, (0, 1, 2)), told)


class Ringless(unittest.TestCase):
    def test_told_ones(self):
        self.assertEqual(ringless(samples.NOBODY), [0])
        self.assertEqual(ringless(samples.ITSELF), [])
        self.assertEqual(ringless(samples.LINE), [0, 1, 2])
        self.assertEqual(ringless(samples.TRIANGLE), [])
        self.assertEqual(ringless(samples.ALL_SEE_ALL), [])
        self.assertEqual(ringless(samples.WIDE), [0, 1, 2, 3, 6])

    def test_who_sees_a_ring_is_out_but_who_is_seen_by_it_is_in(self):
        self.assertEqual(ringless(((1,), (1,))), [])
        self.assertEqual(ringless(((), (0, 1))), [0])

    def test_in_all_small_halls_and_some_larger(self):
        for hall in samples.small_halls() + samples.some_halls(8):
            told = ringless(hall)
            self.assertIs(type(told), list)
            self.assertEqual(told, plain_ringless(hall), hall)

    def test_by_name_with_lists_and_the_askers_own(self):
        hall = samples.as_lists(samples.LINE)
        told = ringless(hall=hall)
        told.clear()
        self.assertEqual(ringless(hall), [0, 1, 2])
        self.assertEqual(hall, samples.as_lists(samples.LINE))


class SeenFirst(unittest.TestCase):
    def test_told_ones(self):
        self.assertEqual(seen_first(samples.NOBODY), [0])
        self.assertEqual(seen_first(samples.ITSELF), [])
        self.assertEqual(seen_first(samples.LINE), [0, 1, 2])
        self.assertEqual(seen_first(((1,), (2,), ())), [2, 1, 0])
        self.assertEqual(seen_first(samples.ALL_SEE_ALL), [])
        self.assertEqual(seen_first(samples.WIDE), [1, 2, 0, 6, 3])

    def test_the_first_as_lists_rise(self):
        self.assertEqual(seen_first(((2,), (), (), (1,))), [1, 2, 0, 3])
        self.assertEqual(seen_first(((3,), (), (), ())), [1, 2, 3, 0])
        self.assertEqual(seen_first(((), (), ())), [0, 1, 2])

    def test_in_all_small_halls_and_some_larger(self):
        for hall in samples.small_halls() + samples.some_halls(20):
            told = seen_first(hall)
            self.assertIs(type(told), list)
            self.assertEqual(told, plain_seen_first(hall), hall)
            self.assertEqual(sorted(told), ringless(hall))

    def test_in_halls_without_rings(self):
        for hall in samples.some_halls(20):
            hall = tuple(tuple(seen for seen in row if seen > one) for one, row in enumerate(hall))
            self.assertEqual(seen_first(hall), plain_seen_first(hall), hall)

    def test_by_name_with_lists_and_the_askers_own(self):
        hall = samples.as_lists(samples.LINE)
        told = seen_first(hall=hall)
        told.reverse()
        self.assertEqual(seen_first(hall), [0, 1, 2])
        self.assertEqual(hall, samples.as_lists(samples.LINE))

    def test_what_was_told_may_be_handed_in_again(self):
        hall = ((1,), ())
        for time in range(7):
            hall = beside(hall, hall)
        order = [person + step for person in range(0, 256, 2) for step in (1, 0)]
        self.assertEqual(seen_first(hall), order)
        self.assertEqual(ringless(hall), list(range(256)))
        self.assertIsNone(ring_among(hall, list(range(256))))

    def test_a_long_line_needs_no_deep_calls(self):
        line = tuple((one + 1,) for one in range(1199)) + ((),)
        self.assertEqual(seen_first(line), list(range(1199, -1, -1)))
        around = tuple(((one + 1) % 1200,) for one in range(1200))
        self.assertIs(is_ring(around, ring_among(around, list(range(1200)))), True)


if __name__ == "__main__":
    unittest.main()

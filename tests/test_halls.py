"""halls.py: point [4]."""

import copy
import unittest

import samples
from looktrails.halls import beside, calls_in, is_hall, is_history, seers, turned, turned_hall


class IsHall(unittest.TestCase):
    def test_right_ones(self):
        for hall in samples.small_halls() + samples.some_halls():
            self.assertIs(is_hall(hall), True, hall)
            self.assertIs(is_hall(thing=hall), True)

    def test_wrong_ones(self):
        for thing in (
            (), [], None, True, False, 0, 3, -1, "", "0 sees -", (0,), ([],), [()], ((1,),),
            ((-1,),), ((True,),), ((False,),), (("0",),), ((None,),), (((0,),),), ((0, 0), ()),
            ((1, 0), ()), ((0, 1, 2), (), (3,)), ((), None), ((), "0"), ("", ""),
            ((0,), [0]), [(0,), (0,)], ((0, True), (0,)), ((0,), (1, "1")), ((10**40,),),
        ):
            self.assertIs(is_hall(thing), False, thing)

    def test_all_near_right_ones(self):
        right = {repr(hall) for many in (1, 2, 3) for hall in samples.all_halls(many)}
        for hall in samples.all_halls(1) + samples.all_halls(2):
            for thing in samples.variants(hall):
                before = copy.deepcopy(thing)
                self.assertIs(is_hall(thing), repr(thing) in right, thing)
                self.assertEqual(repr(thing), repr(before))

    def test_any_size(self):
        self.assertIs(is_hall(((),) * 2999), True)
        everyone = tuple(range(54))
        self.assertIs(is_hall((everyone,) * 54), True)
        self.assertIs(is_hall((everyone,) * 53), False)
        self.assertIs(is_hall(((),) * 2000 + ((5, 1999, 2000),)), True)
        self.assertIs(is_hall(((),) * 2000 + ((5, 1999, 2001),)), False)

    def test_the_number_after_the_last_person_is_nobody(self):
        self.assertIs(is_hall(((0, 1), (1,))), True)
        self.assertIs(is_hall(((0, 2), (1,))), False)


class IsHistory(unittest.TestCase):
    def test_right_ones(self):
        for hall in (samples.ITSELF, samples.LINE, samples.WIDE):
            self.assertIs(is_history(hall, []), True)
            self.assertIs(is_history(hall, [(), ()]), True)
            for history in samples.some_histories(hall):
                self.assertIs(is_history(hall, history), True, history)
                self.assertIs(is_history(thing=history, hall=hall), True)

    def test_wrong_ones(self):
        for thing in (
            (), ((0,),), None, True, 0, "", "0", [[]], [[0]], [(3,)], [(0, 3)], [(-1,)], [(True,)],
            [(0, True)], [(None,)], [("0",)], [((0,),)], [(1, 0)], [(1, 1)], [0], [None], [""],
            [(0,), [1]], [(0,), (2, 1)], [(10**40,)],
        ):
            self.assertIs(is_history(samples.LINE, thing), False, thing)

    def test_all_near_right_ones(self):
        hall = samples.LINE
        right = {repr(history) for history in samples.all_histories(3, 3)}
        for history in samples.all_histories(3, 2):
            for thing in samples.variants(history):
                before = copy.deepcopy(thing)
                self.assertIs(is_history(hall, thing), repr(thing) in right, thing)
                self.assertEqual(repr(thing), repr(before))

    def test_the_persons_are_those_of_the_hall(self):
        for many in range(1, 9):
            hall = ((),) * many
            self.assertIs(is_history(hall, [(many - 1,)]), True)
            self.assertIs(is_history(hall, [(many,)]), False)

    def test_the_hall_may_be_lists(self):
        self.assertIs(is_history([[], [0], [1]], [(0, 2)]), True)
        self.assertIs(is_history([[], [0], [1]], [(0, 3)]), False)

    def test_any_size(self):
        self.assertIs(is_history(samples.NOBODY, [()] * 2999), True)
        self.assertIs(is_history(samples.NOBODY, [(0,)] * 1499), True)
        self.assertIs(is_history(samples.NOBODY, [(0,)] * 1498 + [(1,)]), False)
        self.assertIs(is_history(((),) * 2999, [tuple(range(2999))]), True)


class Seers(unittest.TestCase):
    def test_told_ones(self):
        self.assertEqual(seers(samples.LINE, 0), [1])
        self.assertEqual(seers(samples.LINE, 2), [])
        self.assertEqual(seers(samples.ITSELF, 0), [0])
        self.assertEqual(seers(samples.WIDE, 1), [0, 2])
        self.assertEqual(seers(samples.WIDE, 7), [5, 7])
        self.assertEqual(seers(samples.ALL_SEE_ALL, 1), [0, 1, 2])

    def test_by_names_and_with_lists(self):
        for hall in samples.all_halls(2) + samples.some_halls():
            for person in range(len(hall)):
                told = seers(hall, person)
                self.assertIs(type(told), list)
                self.assertEqual(told, [one for one in range(len(hall)) if person in hall[one]])
                self.assertEqual(seers(person=person, hall=samples.as_lists(hall)), told)

    def test_the_answer_is_the_askers(self):
        hall = samples.as_lists(samples.WIDE)
        told = seers(hall, 2)
        told.append(9)
        self.assertEqual(seers(hall, 2), [0, 3])
        self.assertEqual(hall, samples.as_lists(samples.WIDE))


class TurnedHall(unittest.TestCase):
    def test_told_ones(self):
        self.assertEqual(turned_hall(samples.LINE), ((1,), (2,), ()))
        self.assertEqual(turned_hall(samples.NOBODY), ((),))
        self.assertEqual(turned_hall(samples.ITSELF), ((0,),))
        self.assertEqual(turned_hall(samples.TRIANGLE), ((2,), (0,), (1,)))

    def test_each_sees_those_who_see_it(self):
        for hall in samples.small_halls() + samples.some_halls():
            told = turned_hall(hall)
            self.assertIs(is_hall(told), True)
            for person in range(len(hall)):
                self.assertEqual(list(told[person]), seers(hall, person))

    def test_twice_it_is_as_it_was(self):
        for hall in samples.small_halls() + samples.some_halls():
            self.assertEqual(turned_hall(turned_hall(hall)), hall)

    def test_with_lists_and_by_name(self):
        for hall in samples.some_halls():
            lists = samples.as_lists(hall)
            self.assertEqual(turned_hall(hall=lists), turned_hall(hall))
            self.assertIs(is_hall(turned_hall(lists)), True)
            self.assertEqual(lists, samples.as_lists(hall))


class Turned(unittest.TestCase):
    def test_told_ones(self):
        self.assertEqual(turned([]), [])
        self.assertEqual(turned([()]), [()])
        self.assertEqual(turned([(0,), (), (1, 2)]), [(1, 2), (), (0,)])

    def test_twice_it_is_as_it_was(self):
        for history in samples.all_histories(3, 2) + samples.some_histories(samples.WIDE):
            self.assertEqual(turned(turned(history)), history)

    def test_kinds(self):
        for handed in ([(0,), (1, 2)], ((0,), (1, 2)), [[0], [1, 2]], ((0,), [1, 2])):
            told = turned(history=handed)
            self.assertEqual(told, [(1, 2), (0,)])
            self.assertEqual(samples.kinds_of(told), samples.kinds_of([(1, 2), (0,)]))
        self.assertEqual(samples.kinds_of(turned(())), ("list", []))

    def test_the_answer_is_the_askers(self):
        handed = [[0], [1, 2]]
        told = turned(handed)
        handed[0].append(1)
        handed.append([])
        self.assertEqual(told, [(1, 2), (0,)])
        history = [(0,), (1,)]
        one, other = turned(history), turned(history)
        one.append((5,))
        self.assertEqual(other, [(1,), (0,)])
        self.assertEqual(history, [(0,), (1,)])
        nothing = []
        turned(nothing).append(())
        self.assertEqual(nothing, [])


class Beside(unittest.TestCase):
    def test_told_ones(self):
        self.assertEqual(beside(samples.NOBODY, samples.ITSELF), ((), (1,)))
        self.assertEqual(beside(samples.ITSELF, samples.NOBODY), ((0,), ()))
        self.assertEqual(beside(samples.LINE, ((1,), (0, 1))), ((), (0,), (1,), (4,), (3, 4)))

    def test_all_see_whom_they_saw(self):
        for one in samples.all_halls(2):
            for other in samples.all_halls(2) + samples.some_halls(3):
                told = beside(one, other)
                self.assertIs(is_hall(told), True)
                self.assertEqual(len(told), len(one) + len(other))
                self.assertEqual(told[: len(one)], one)
                back = tuple(tuple(seen - len(one) for seen in row) for row in told[len(one) :])
                self.assertEqual(back, other)

    def test_with_lists_and_by_names(self):
        one, other = [[], [0]], [[0, 1], []]
        told = beside(other=other, one=one)
        self.assertEqual(told, ((), (0,), (2, 3), ()))
        self.assertIs(is_hall(told), True)
        self.assertEqual((one, other), ([[], [0]], [[0, 1], []]))
        one[1].append(1)
        self.assertEqual(told, ((), (0,), (2, 3), ()))
        self.assertEqual(beside([(), (0,)], ([],)), ((), (0,), ()))

    def test_what_was_told_may_be_handed_in_again(self):
        hall = samples.WIDE
        for time in range(5):
            hall = beside(hall, hall)
        self.assertEqual(len(hall), 256)
        self.assertIs(is_hall(hall), True)
        self.assertEqual(turned_hall(turned_hall(hall)), hall)
        self.assertEqual(seers(hall, 255), [253, 255])
        self.assertIs(is_history(hall, [(0, 255)]), True)


class CallsIn(unittest.TestCase):
    def test_told_ones(self):
        self.assertEqual(calls_in([]), 0)
        self.assertEqual(calls_in([(), ()]), 0)
        self.assertEqual(calls_in([(0, 1), (), (1,)]), 3)
        self.assertIs(type(calls_in([(0,)])), int)

    def test_with_lists_and_by_name(self):
        for history in samples.some_histories(samples.WIDE):
            many = len([person for beat in history for person in beat])
            self.assertEqual(calls_in(history), many)
            self.assertEqual(calls_in(history=samples.as_lists(history)), many)
            self.assertEqual(calls_in(samples.as_tuples(history)), many)

    def test_beside_and_turned(self):
        for history in samples.some_histories(samples.WIDE):
            self.assertEqual(calls_in(turned(history)), calls_in(history))


if __name__ == "__main__":
    unittest.main()

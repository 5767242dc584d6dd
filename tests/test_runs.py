"""runs.py: point [7]."""

import copy
import random
import unittest

import asking
import samples
import slow
from looktrails.runs import is_rules, run_marks, run_sums


def plain_marks(hall, history, rules, first):
    """What RULES write, with sets and row by row."""
    slates = [set(slate) for slate in first]
    for beat in history:
        old = [set(slate) for slate in slates]
        for person in beat:
            always, pairs = rules[person]
            slates[person] = set(always) | {put for seen, mark, put in pairs if mark in old[seen]}
    return [tuple(sorted(slate)) for slate in slates]


def plain_sums(hall, history, sums, first, rest):
    """What SUMS write; the rest is found by going up and down."""
    slates = list(first)
    for beat in history:
        old = list(slates)
        for person in beat:
            add, weights = sums[person]
            total = add
            for place in range(len(hall[person])):
                total += weights[place] * old[hall[person][place]]
            while total < 0:
                total += rest * max(1, -total // rest)
            while total >= rest:
                total -= rest * (total // rest)
            slates[person] = total
    return slates


# In the line each of 1 and 2 passes on what it sees, one mark up.
PASSING = [((0,), ()), ((), ((0, 0, 1), (0, 1, 2))), ((9,), ((1, 1, 2), (1, 2, 3)))]
BARE = [(), (), ()]


class IsRules(unittest.TestCase):
    def test_right_ones(self):
        self.assertIs(is_rules(samples.LINE, PASSING), True)
        self.assertIs(is_rules(thing=PASSING, hall=samples.LINE), True)
        self.assertIs(is_rules(samples.NOBODY, [((), ())]), True)
        self.assertIs(is_rules(samples.ITSELF, [((0, 7, 10**40), ((0, 0, 0), (0, 0, 1), (0, 1, 0)))]), True)
        source = random.Random(1)
        for hall in samples.small_halls() + samples.some_halls():
            self.assertIs(is_rules(hall, samples.drawn_rules(source, hall)), True)

    def test_each_part_otherwise(self):
        for rule in (
            ((1, 1), ()), ((2, 1), ()), ((-1,), ()), ((True,), ()), ((False,), ()), ((None,), ()), (("1",), ()),
            ([1], ()), ((), []), ((), [(0, 1, 1)]), ((), ([0, 1, 1],)), [(), ()], ((),), ((), (), ()), (), None, 0, "",
            ((), ((0, 1),)), ((), ((0, 1, 1, 1),)), ((), ((),)), ((), (0, 1, 1)), ((), ((1, 1, 1),)),
            ((), ((2, 1, 1),)), ((), ((-1, 1, 1),)), ((), ((0, -1, 1),)), ((), ((0, 1, -1),)),
            ((), ((False, 1, 1),)), ((), ((0, True, 1),)), ((), ((0, 1, True),)), ((), ((0, 1, None),)),
            ((), (("0", 1, 1),)), ((), ((0, (1,), 1),)), ((), ((0, 1, 1), (0, 1, 1))), ((), ((0, 1, 2), (0, 1, 1))),
            ((), ((0, 2, 1), (0, 1, 2))), (0, ()), ((), 0), (None, ()), ((), None), ("", ()), ((), ""),
            ((), ((0, 1, 1), None)), ((0, "1"), ()), ((), ((0, 1, 1), (0, "2", 1))),
        ):
            self.assertIs(is_rules(samples.LINE, [((), ()), rule, ((), ())]), False, rule)
        self.assertIs(is_rules(samples.LINE, [((), ()), ((), ((0, 1, 1), (0, 1, 2), (0, 2, 0))), ((), ())]), True)

    def test_a_person_more_or_less(self):
        bare = ((), ())
        for many in range(6):
            self.assertIs(is_rules(samples.LINE, [bare] * many), many == 3)
            self.assertIs(is_rules(samples.LINE, (bare,) * many), False)

    def test_of_anything(self):
        for thing in (None, True, False, 0, 3, -1, "", "abc", (), [], [None] * 3, [0] * 3, [[]] * 3, [()] * 3, ["ab"] * 3):
            self.assertIs(is_rules(samples.LINE, thing), False, thing)

    def test_all_near_right_ones(self):
        source = random.Random(2)
        for hall in (samples.ITSELF, samples.SWAP, samples.LINE, samples.SELVES):
            for time in range(3):
                for thing in samples.variants(samples.drawn_rules(source, hall)):
                    before = copy.deepcopy(thing)
                    self.assertIs(is_rules(hall, thing), slow.is_rules(hall, thing), thing)
                    self.assertEqual(repr(thing), repr(before))

    def test_the_hall_may_be_lists(self):
        self.assertIs(is_rules([[], [0], [1]], PASSING), True)
        self.assertIs(is_rules([[], [], [1]], PASSING), False)

    def test_long_ones(self):
        triples = tuple((0, mark, mark) for mark in range(700))
        self.assertIs(is_rules(samples.ITSELF, [((), triples)]), True)
        self.assertIs(is_rules(samples.ITSELF, [((), triples + triples[:1])]), False)
        self.assertIs(is_rules(samples.ITSELF, [(tuple(range(2900)), ())]), True)


class RunMarks(unittest.TestCase):
    def test_told_ones(self):
        run = run_marks(samples.LINE, [(0,), (1,), (2,)], PASSING, BARE)
        self.assertEqual(run, [(0,), (1,), (2, 9)])
        self.assertEqual(run_marks(samples.LINE, [(2,), (1,), (0,)], PASSING, BARE), [(0,), (), (9,)])
        self.assertEqual(run_marks(samples.LINE, [(0,), (2,)], PASSING, [(), (1, 2), (5,)]), [(0,), (1, 2), (2, 3, 9)])

    def test_all_look_first_then_all_write(self):
        copying = [((), ((1, 1, 1), (1, 2, 2))), ((), ((0, 1, 1), (0, 2, 2)))]
        first = [(1,), (2,)]
        self.assertEqual(run_marks(samples.SWAP, [(0, 1)], copying, first), [(2,), (1,)])
        self.assertEqual(run_marks(samples.SWAP, [(0,), (1,)], copying, first), [(2,), (2,)])
        self.assertEqual(run_marks(samples.SWAP, [(1,), (0,)], copying, first), [(1,), (1,)])

    def test_what_stood_is_wiped(self):
        self.assertEqual(run_marks(samples.NOBODY, [(0,)], [((), ())], [(1, 2)]), [()])
        self.assertEqual(run_marks(samples.ITSELF, [(0,)], [((3,), ((0, 1, 1),))], [(1, 2)]), [(1, 3)])
        self.assertEqual(run_marks(samples.ITSELF, [(0,), (0,)], [((), ((0, 1, 2),))], [(1,)]), [()])

    def test_of_no_beats_and_of_bare_ones_the_first_slates(self):
        first = [(1,), (), (0, 99)]
        for history in ([], [()], [(), ()]):
            self.assertEqual(run_marks(samples.LINE, history, PASSING, first), first)

    def test_persons_who_see_themselves(self):
        counting = [((), ((0, 0, 1), (0, 1, 2), (0, 2, 3)))]
        for many in range(4):
            self.assertEqual(run_marks(samples.ITSELF, [(0,)] * many, counting, [(0,)]), [(many,)])
        self.assertEqual(run_marks(samples.ITSELF, [(0,)] * 4, counting, [(0,)]), [()])

    def test_against_the_plain_way(self):
        source = random.Random(3)
        for hall, history in samples.drawn_questions(300, (1, 8), 12):
            rules = samples.drawn_rules(source, hall)
            first = [samples.drawn_slate(source) for person in hall]
            told = run_marks(hall, history, rules, first)
            self.assertEqual(told, plain_marks(hall, history, rules, first))

    def test_small_halls_and_histories(self):
        source = random.Random(4)
        for hall, histories in samples.small_pairs():
            rules = samples.drawn_rules(source, hall)
            first = [samples.drawn_slate(source) for person in hall]
            for history in histories:
                told = run_marks(hall, history, rules, first)
                self.assertEqual(told, plain_marks(hall, history, rules, first))

    def test_in_all_ways_of_asking(self):
        source = random.Random(5)
        for hall, history in samples.drawn_questions(30, (1, 6), 6):
            first = [samples.drawn_slate(source) for person in hall]
            rules = samples.drawn_rules(source, hall)
            asked = {"hall": hall, "history": history, "rules": rules, "first": first}
            told = asking.check_question(self, run_marks, asked)
            self.assertEqual(samples.kinds_of(told), samples.kinds_of([tuple(slate) for slate in told]))

    def test_a_full_hall(self):
        hall, history = samples.full_question()
        rules = [
            ((99,), tuple(sorted((seen, mark, (mark + seen) % 100) for seen in row for mark in range(0, 99, 4)))[:30])
            for row in hall
        ]
        first = [tuple(range(0, 99, 3))] * 8
        told = run_marks(hall, history, rules, first)
        self.assertEqual(told, plain_marks(hall, history, rules, first))


class RunSums(unittest.TestCase):
    def test_told_ones(self):
        sums = [(5, ()), (1, (2,)), (0, (3,))]
        told = run_sums(samples.LINE, [(0,), (1,), (2,)], sums, [0, 0, 0], rest=100)
        self.assertEqual(told, [5, 11, 33])
        self.assertEqual(run_sums(samples.LINE, [(0, 1, 2)], sums, [7, 8, 9], rest=100), [5, 15, 24])
        self.assertEqual(run_sums(samples.LINE, [(2,), (1,)], sums, [7, 8, 9], rest=10), [7, 5, 4])

    def test_below_nought(self):
        self.assertEqual(run_sums(samples.ITSELF, [(0,)], [(-1, (0,))], [0], rest=7), [6])
        self.assertEqual(run_sums(samples.ITSELF, [(0,)], [(0, (-3,))], [2], rest=7), [1])
        self.assertEqual(run_sums(samples.ITSELF, [(0,)], [(-14, (0,))], [3], rest=7), [0])
        self.assertEqual(run_sums(samples.SWAP, [(0, 1)], [(-99, (-99,)), (99, (99,))], [1, 1], rest=2), [0, 0])

    def test_all_look_first_then_all_write(self):
        copying = [(0, (1,)), (0, (1,))]
        self.assertEqual(run_sums(samples.SWAP, [(0, 1)], copying, [3, 4], rest=9), [4, 3])
        self.assertEqual(run_sums(samples.SWAP, [(0,), (1,)], copying, [3, 4], rest=9), [4, 4])

    def test_of_no_beats_and_of_bare_ones_the_first_numbers(self):
        for history in ([], [()], [(), ()]):
            told = run_sums(samples.SWAP, history, [(1, (1,)), (1, (1,))], [3, 4], rest=9)
            self.assertEqual(told, [3, 4])

    def test_weights_are_in_order(self):
        hall = ((0, 1, 2), (), ())
        self.assertEqual(run_sums(hall, [(0,)], [(0, (100, 10, 1)), (0, ()), (0, ())], [1, 2, 3], rest=10**6), [123, 2, 3])

    def test_against_the_plain_way(self):
        source = random.Random(6)
        for hall, history in samples.drawn_questions(300, (1, 8), 12):
            rest = source.choice([2, 3, 10, 97, 10**6])
            sums = [
                (source.randint(-99, 99), tuple(source.randint(-99, 99) for seen in row)) for row in hall
            ]
            first = [source.randrange(rest) for person in hall]
            told = run_sums(hall, history, sums, first, rest=rest)
            self.assertEqual(told, plain_sums(hall, history, sums, first, rest))
            self.assertTrue(all(0 <= number < rest for number in told))

    def test_in_all_ways_of_asking(self):
        source = random.Random(7)
        for hall, history in samples.drawn_questions(30, (1, 6), 6):
            sums = [(source.randint(-9, 9), tuple(source.randint(-9, 9) for seen in row)) for row in hall]
            first = [source.randrange(50) for person in hall]
            asked = {"hall": hall, "history": history, "sums": sums, "first": first, "rest": 50}
            asking.check_question(self, run_sums, asked)

    def test_the_rest_goes_by_its_name_alone(self):
        self.assertRaises(TypeError, run_sums, samples.NOBODY, [], [(0, ())], [0], 5)
        self.assertRaises(TypeError, run_sums, samples.NOBODY, [], [(0, ())], [0])


if __name__ == "__main__":
    unittest.main()

"""versions.py and common.py: point [11], and [1] (b)."""

import random
import unittest

import asking
import samples
import slow
from looktrails.common import common
from looktrails.runs import run_marks
from looktrails.versions import seen_at, version_at, words, written_at


def questions():
    return samples.small_questions(100, samples.small_pairs())


def pairs_of_histories():
    return samples.small_comparisons(200, 20)


class VersionAt(unittest.TestCase):
    def test_told_ones(self):
        history = [(0,), (1, 2), (1,), (), (0, 2), (2,)]
        self.assertEqual([version_at(samples.LINE, history, person) for person in range(3)], [1, 1, 2])
        told = [version_at(samples.LINE, history, 2, ahead=ahead) for ahead in range(9)]
        self.assertEqual(told, [0, 0, 1, 1, 1, 2, 2, 2, 2])

    def test_ahead(self):
        history = [(0,)] * 4
        told = [version_at(samples.ITSELF, history, 0, ahead=ahead) for ahead in (0, 1, 3, 4, 5, 10**40, None)]
        self.assertEqual(told, [0, 1, 3, 4, 4, 4, 4])

    def test_one_who_sees_itself_writes_a_new_one_at_each_call(self):
        for many in range(8):
            self.assertEqual(version_at(samples.ITSELF, [(0,), ()] * many, 0), many)

    def test_one_who_sees_nobody_writes_one_new_one(self):
        for many in range(1, 8):
            self.assertEqual(version_at(samples.NOBODY, [(0,)] * many, 0), 1)
            self.assertEqual(written_at(samples.NOBODY, [()] + [(0,)] * many, 0), [1])

    def test_one_who_is_never_called(self):
        self.assertEqual(version_at(samples.LINE, [(0,), (1,)], 2), 0)
        self.assertEqual(written_at(samples.LINE, [(0,), (1,)], 2), [])
        self.assertEqual(version_at(samples.LINE, [], 0), 0)
        self.assertEqual(written_at(samples.LINE, [], 0), [])

    def test_against_the_trees(self):
        for hall, history in questions():
            rows = slow.version_rows(hall, history)
            for person in range(len(hall)):
                self.assertEqual(version_at(hall, history, person), rows[-1][person])
                for ahead in range(len(history) + 1):
                    told = version_at(hall, history, person, ahead=ahead)
                    self.assertEqual(told, rows[ahead][person])
                    self.assertEqual(told, version_at(hall, history[:ahead], person))
                self.assertEqual(version_at(hall, history, person, ahead=99), rows[-1][person])

    def test_rules_write_something_else_only_as_a_new_version(self):
        source = random.Random(1)
        for hall, history in samples.drawn_questions(200):
            rules = samples.drawn_rules(source, hall)
            first = [samples.drawn_slate(source) for person in hall]
            for beat, persons in enumerate(history):
                old = run_marks(hall, history[:beat], rules, first)
                new = run_marks(hall, history[: beat + 1], rules, first)
                for person in persons:
                    if old[person] != new[person]:
                        self.assertIn(beat, written_at(hall, history, person))

    def test_no_version_comes_back(self):
        for hall, history in questions():
            rows = slow.tree_rows(hall, history)
            for person in range(len(hall)):
                trees = {}
                for ahead, row in enumerate(rows):
                    version = version_at(hall, history, person, ahead=ahead)
                    self.assertEqual(trees.setdefault(version, row[person]), row[person])
                self.assertEqual(len(set(trees.values())), len(trees))

    def test_a_full_hall(self):
        everyone = (tuple(range(8)),) * 8
        history = [tuple(range(5))] * 60
        self.assertEqual([version_at(everyone, history, person) for person in range(8)], [60] * 5 + [0] * 3)

    def test_in_all_ways_of_asking(self):
        for hall, history in samples.drawn_questions(20):
            asked = {"hall": hall, "history": history, "person": 1}
            asking.check_question(self, version_at, asked)
            asking.check_question(self, version_at, {**asked, "ahead": 2})
        self.assertRaises(TypeError, version_at, samples.NOBODY, [(0,)], 0, 1)


class WrittenAt(unittest.TestCase):
    def test_told_ones(self):
        history = [(0,), (1, 2), (1,), (), (0, 2), (2,)]
        told = [written_at(samples.LINE, history, person) for person in range(3)]
        self.assertEqual(told, [[0], [1], [1, 4]])
        self.assertEqual(written_at(samples.SWAP, [(0, 1), (0,), (0,), (1,)], 0), [0, 1])

    def test_against_the_trees(self):
        for hall, history in questions():
            rows = slow.tree_rows(hall, history)
            for person in range(len(hall)):
                right = [
                    beat for beat in range(len(history)) if rows[beat][person] != rows[beat + 1][person]
                ]
                self.assertEqual(written_at(hall, history, person), right)
                self.assertEqual(version_at(hall, history, person), len(right))

    def test_in_all_ways_of_asking(self):
        for hall, history in samples.drawn_questions(20):
            asking.check_question(self, written_at, {"hall": hall, "history": history, "person": 2})


class SeenAt(unittest.TestCase):
    def test_told_ones(self):
        hall = ((0, 1, 2), (), (2,))
        history = [(0, 1), (1, 2), (0,), (0, 1, 2)]
        self.assertEqual(seen_at(hall, history, 0, 0), [(0, 0), (1, 0), (2, 0)])
        self.assertEqual(seen_at(hall, history, 2, 0), [(0, 1), (1, 1), (2, 1)])
        self.assertEqual(seen_at(hall, history, 3, 0), [(0, 2), (1, 1), (2, 1)])
        self.assertEqual(seen_at(hall, history, 3, 2), [(2, 1)])
        self.assertEqual(seen_at(hall, history, 3, 1), [])

    def test_as_they_stood_ahead_of_that_beat(self):
        for hall, history in questions():
            for beat, persons in enumerate(history):
                for person in persons:
                    right = [(seen, version_at(hall, history, seen, ahead=beat)) for seen in hall[person]]
                    self.assertEqual(seen_at(hall, history, beat, person), right)

    def test_in_all_ways_of_asking(self):
        for hall, history in samples.drawn_questions(20):
            for beat, persons in enumerate(history):
                for person in persons:
                    asked = {"hall": hall, "history": history, "beat": beat, "person": person}
                    asking.check_question(self, seen_at, asked)


class Words(unittest.TestCase):
    def test_told_ones(self):
        history = [(0, 1), (), (0, 1), (1,)]
        told = words(samples.LINE, history)
        self.assertEqual(told, [[(0, "needed"), (1, "unread")], [], [(0, "same"), (1, "needed")], [(1, "same")]])
        told = words(samples.LINE, history, watched=[0])
        self.assertEqual(told, [[(0, "needed"), (1, "unread")], [], [(0, "same"), (1, "unread")], [(1, "same")]])
        told = words(samples.LINE, history, watched=[2])
        self.assertEqual(told, [[(0, "unread"), (1, "unread")], [], [(0, "same"), (1, "unread")], [(1, "same")]])

    def test_a_needed_call_needs_what_it_sees(self):
        history = [(0,), (1,), (2,), (1,)]
        told = words(samples.LINE, history, watched=[2])
        self.assertEqual(told, [[(0, "needed")], [(1, "needed")], [(2, "needed")], [(1, "same")]])
        told = words(samples.SWAP, [(0,), (1,), (0,)], watched=[0])
        self.assertEqual(told, [[(0, "needed")], [(1, "needed")], [(0, "needed")]])
        told = words(samples.SWAP, [(0,), (1,), (0,)], watched=[1])
        self.assertEqual(told, [[(0, "needed")], [(1, "needed")], [(0, "unread")]])

    def test_one_called_at_the_beat_of_a_needed_call_is_not_seen_by_it(self):
        told = words(samples.LINE, [(0, 1)], watched=[1])
        self.assertEqual(told, [[(0, "unread"), (1, "needed")]])

    def test_of_no_beats_and_of_bare_ones(self):
        self.assertEqual(words(samples.LINE, []), [])
        self.assertEqual(words(samples.LINE, [(), ()]), [[], []])

    def test_watched_none(self):
        told = words(samples.ITSELF, [(0,), (0,)], watched=[])
        self.assertEqual(told, [[(0, "unread")], [(0, "unread")]])
        self.assertEqual(words(samples.NOBODY, [(0,), (0,)], watched=[]), [[(0, "unread")], [(0, "same")]])

    def test_against_the_trees(self):
        for hall, history in questions():
            for watched in samples.watched_choices(hall):
                told = words(hall, history, watched=watched)
                self.assertEqual(told, slow.words(hall, history, watched))

    def test_by_the_documents_words(self):
        for hall, history in samples.drawn_questions(60):
            for watched in samples.watched_choices(hall):
                told = words(hall, history, watched=watched)
                needed = [
                    (beat, person)
                    for beat, row in enumerate(told)
                    for person, word in row
                    if word == "needed"
                ]
                seen = {sight for beat, person in needed for sight in seen_at(hall, history, beat, person)}
                for beat, row in enumerate(told):
                    self.assertEqual([person for person, word in row], list(history[beat]))
                    for person, word in row:
                        version = version_at(hall, history, person, ahead=beat + 1)
                        last = (watched is None or person in watched) and version == version_at(hall, history, person)
                        if beat not in written_at(hall, history, person):
                            self.assertEqual(word, "same")
                        elif last or (person, version) in seen:
                            self.assertEqual(word, "needed")
                        else:
                            self.assertEqual(word, "unread")

    def test_in_all_ways_of_asking(self):
        for hall, history in samples.drawn_questions(20):
            asked = {"hall": hall, "history": history}
            asking.check_question(self, words, asked)
            asking.check_question(self, words, {**asked, "watched": [0, 2]})
        self.assertRaises(TypeError, words, samples.NOBODY, [], None)


class Common(unittest.TestCase):
    def test_told_ones(self):
        self.assertEqual(common(samples.LINE, [], [], 0), [(0, 0)])
        self.assertEqual(common(samples.LINE, [(0,)], [(0,)], 0), [(0, 0), (1, 1)])
        one, other = [(1,), (0,), (1,)], [(0,), (1,)]
        self.assertEqual(common(samples.LINE, one, other, 1), [(0, 0), (2, 1)])
        self.assertEqual(common(samples.LINE, other, one, 1), [(0, 0), (1, 2)])
        self.assertEqual(common(samples.SWAP, [(0,), (1,)], [(1,), (0,)], 0), [(0, 0)])

    def test_of_a_history_and_itself_all(self):
        for hall, history in questions():
            for person in range(len(hall)):
                all_of_it = [(number, number) for number in range(version_at(hall, history, person) + 1)]
                self.assertEqual(common(hall, history, history, person), all_of_it)

    def test_just_those_that_are_made_alike(self):
        for hall, one, other in pairs_of_histories():
            mine, yours = slow.tree_rows(hall, one), slow.tree_rows(hall, other)
            my_versions, your_versions = slow.version_rows(hall, one), slow.version_rows(hall, other)
            for person in range(len(hall)):
                right = {
                    (my_versions[here][person], your_versions[there][person])
                    for here in range(len(one) + 1)
                    for there in range(len(other) + 1)
                    if mine[here][person] == yours[there][person]
                }
                self.assertEqual(common(hall, one, other, person), sorted(right))

    def test_nought_first_and_both_numbers_rise(self):
        for hall, one, other in pairs_of_histories():
            for person in range(len(hall)):
                told = common(hall, one, other, person)
                self.assertEqual(told[0], (0, 0))
                for low, high in zip(told, told[1:]):
                    self.assertLess(low[0], high[0])
                    self.assertLess(low[1], high[1])
                self.assertEqual(common(hall, other, one, person), [(there, here) for here, there in told])

    def test_in_all_ways_of_asking(self):
        for hall, one, other in samples.drawn_pairs(20):
            asked = {"hall": hall, "one": one, "other": other, "person": 0}
            told = asking.check_question(self, common, asked)
            self.assertTrue(all(type(pair) is tuple for pair in told))

    def test_a_full_hall(self):
        hall, history = samples.full_question()
        for person in range(8):
            told = common(hall, history, history[:30], person)
            half = version_at(hall, history, person, ahead=30)
            self.assertEqual(told, [(number, number) for number in range(half + 1)])


if __name__ == "__main__":
    unittest.main()

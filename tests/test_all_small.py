"""All small halls and histories, none left out, against the slow second ways.

These are all halls of two persons with all histories of up to three beats, each held
against each other one, and all halls of three persons with all of up to two beats.
"""

import unittest

import samples
import slow
from looktrails.alike import are_alike, parting_trail, unlike_persons
from looktrails.common import common
from looktrails.halls import calls_in
from looktrails.hangs import hangs_on
from looktrails.least import chain, earliest, fewest, latest, shows_chain, spans
from looktrails.order import bounds, keeps, needed
from looktrails.trails import longest_trail, trails_of
from looktrails.versions import version_at, words

PAIRS_OF_TWO = [(hall, samples.all_histories(2, 3)) for hall in samples.all_halls(2)]
PAIRS_OF_THREE = [(hall, samples.all_histories(3, 2)) for hall in samples.all_halls(3)]


class EachByItself(unittest.TestCase):
    def check(self, hall, history):
        trees = slow.last_trees(hall, history)
        going = sorted(slow.trails_that_go(hall, history, len(history)))
        self.assertEqual(longest_trail(hall, history), min(going, key=lambda one: (-len(one), one), default=()))
        versions = slow.version_rows(hall, history)[-1]
        for person in range(len(hall)):
            self.assertEqual(hangs_on(hall, history, person), sorted(slow.first_slates_in(trees[person])))
            self.assertEqual(trails_of(hall, history, person), [one for one in going if one[0] == person])
            self.assertEqual(version_at(hall, history, person), versions[person])
        self.assertEqual(words(hall, history), slow.words(hall, history))
        self.assertEqual(needed(hall, history), sorted(slow.numbered_calls(hall, history).values()))
        self.assertEqual(bounds(hall, history), slow.bounds(hall, history))
        self.assertIs(shows_chain(hall, history, chain(hall, history)), True)
        for told in (earliest(hall, history), latest(hall, history)):
            self.assertIs(keeps(hall, history, told), True)
            self.assertEqual(slow.last_trees(hall, told), trees)

    def test_two_persons(self):
        for hall, histories in PAIRS_OF_TWO:
            for history in histories:
                self.check(hall, history)

    def test_three_persons(self):
        for hall, histories in PAIRS_OF_THREE:
            for history in histories:
                self.check(hall, history)


class AllTogether(unittest.TestCase):
    def check(self, hall, histories):
        """Those with one tree have one earliest laying, which is the least of them; spans likewise."""
        groups = {}
        for history in histories:
            groups.setdefault(slow.last_trees(hall, history), []).append(history)
        layings = []
        for group in groups.values():
            told = earliest(hall, group[0])
            layings.append(tuple(told))
            least = min(calls_in(history) for history in group), min(len(history) for history in group)
            kept = [history for history in group if calls_in(history) == least[0]]
            beats = [slow.beats_of(history) for history in kept]
            within = [slow.beats_of(history) for history in kept if len(history) == least[1]]
            right = [
                (call, min(row[call] for row in beats), max(row[call] for row in within))
                for call in sorted(beats[0])
            ]
            for history in group:
                self.assertEqual(earliest(hall, history), told)
                self.assertEqual(fewest(hall, history), least)
                self.assertEqual(spans(hall, history), right)
        self.assertEqual(len(set(layings)), len(groups))

    def test_two_persons(self):
        for hall, histories in PAIRS_OF_TWO:
            self.check(hall, histories)

    def test_three_persons(self):
        for hall, histories in PAIRS_OF_THREE:
            self.check(hall, histories)


class EachAgainstEach(unittest.TestCase):
    def test_two_persons(self):
        for hall, histories in PAIRS_OF_TWO:
            told = [
                (one, slow.last_trees(hall, one), set(slow.trails_that_go(hall, one, 4)))
                for one in histories
            ]
            for one, mine, my_trails in told:
                for other, yours, your_trails in told:
                    self.assertIs(are_alike(hall, one, other), mine == yours)
                    unlike = [person for person in range(2) if mine[person] != yours[person]]
                    self.assertEqual(unlike_persons(hall, one, other), unlike)
                    apart = my_trails ^ your_trails
                    right = min(apart, key=lambda trail: (len(trail), trail), default=None)
                    self.assertEqual(parting_trail(hall, one, other), right)

    def test_common_of_two_persons(self):
        for hall, histories in PAIRS_OF_TWO:
            rows = [(one, slow.tree_rows(hall, one)) for one in histories]
            for one, mine in rows:
                for other, yours in rows:
                    for person in range(2):
                        first = list(dict.fromkeys(row[person] for row in mine))
                        second = list(dict.fromkeys(row[person] for row in yours))
                        right = [(first.index(tree), second.index(tree)) for tree in first if tree in second]
                        self.assertEqual(common(hall, one, other, person), right)


if __name__ == "__main__":
    unittest.main()

"""joint.py: point [19]."""

import copy
import unittest

import asking
import samples
import slow
from looktrails.alike import are_alike, parting_rules, parting_trail
from looktrails.joint import answers_for, likes, paper_for, shows_paper
from looktrails.least import earliest, latest
from looktrails.order import keeps
from looktrails.runs import run_marks

ALIKE = (samples.LINE, [(0,), (2,), (1,)], [(2,), (0,), (0, 1), ()])
UNLIKE = (samples.LINE, [(0,), (1,), (2,)], [(0,), (1, 2)])


def cases():
    return samples.small_comparisons(150, 8)


def is_plain_history(hall, thing):
    return type(thing) is list and all(slow.is_slate(beat) and all(one < len(hall) for one in beat) for beat in thing)


def is_plain_trail(hall, thing):
    if type(thing) is not tuple or not thing or not all(slow.is_number(one) and one < len(hall) for one in thing):
        return False
    return all(seen in hall[person] for person, seen in zip(thing, thing[1:]))


def is_paper(hall, one, other, thing, watched=None):
    """Whether a thing is a paper, by the document's words."""
    if type(thing) is not tuple or not thing or type(thing[0]) is not str:
        return False
    if thing[0] == "alike" and len(thing) == 2:
        return is_plain_history(hall, thing[1]) and all(
            keeps(hall, history, thing[1], watched=watched) for history in (one, other)
        )
    if thing[0] != "unlike" or len(thing) != 3:
        return False
    persons = range(len(hall)) if watched is None else watched
    if not is_plain_trail(hall, thing[1]) or thing[1][0] not in persons or not slow.is_rules(hall, thing[2]):
        return False
    if bool(slow.falling_beats(one, thing[1])) == bool(slow.falling_beats(other, thing[1])):
        return False
    mine, yours = [run_marks(hall, history, thing[2], [()] * len(hall)) for history in (one, other)]
    return any(mine[person] != yours[person] for person in persons)


class PaperFor(unittest.TestCase):
    def test_told_ones(self):
        self.assertEqual(paper_for(*ALIKE), ("alike", [(0, 2), (1,)]))
        word, trail, rules = paper_for(*UNLIKE)
        self.assertEqual((word, trail), ("unlike", (2, 1)))
        self.assertEqual(paper_for(*UNLIKE, watched=[0, 1]), ("alike", [(0,), (1,)]))
        self.assertEqual(paper_for(*UNLIKE, watched=[]), ("alike", []))

    def test_alike_and_unlike_ones(self):
        met = {"alike": 0, "unlike": 0}
        for hall, one, other in cases():
            for watched in samples.watched_choices(hall):
                told = paper_for(hall, one, other, watched=watched)
                met[told[0]] += 1
                if slow.watched_trees(hall, one, watched) == slow.watched_trees(hall, other, watched):
                    self.assertEqual(told, ("alike", earliest(hall, one, watched=watched)))
                    self.assertEqual(told, ("alike", earliest(hall, other, watched=watched)))
                else:
                    trail = parting_trail(hall, one, other, watched=watched)
                    self.assertEqual(told, ("unlike", trail, parting_rules(hall, trail)))
                self.assertIs(shows_paper(hall, one, other, told, watched=watched), True)
                self.assertIs(shows_paper(hall, other, one, told, watched=watched), True)
        self.assertGreater(min(met.values()), 1000)

    def test_at_the_full_bounds(self):
        for seed in range(3):
            hall, history = samples.full_question(seed)
            for other in (latest(hall, history), history[::-1], history[:-1]):
                told = paper_for(hall, history, other)
                self.assertEqual(told[0] == "alike", are_alike(hall, history, other))
                self.assertIs(shows_paper(hall, history, other, told), True)

    def test_in_all_ways_of_asking(self):
        for hall, one, other in samples.drawn_pairs(40):
            asked = {"hall": hall, "one": one, "other": other}
            asking.check_question(self, paper_for, asked)
            asking.check_question(self, paper_for, {**asked, "watched": [0, 2]})
        self.assertRaises(TypeError, paper_for, samples.NOBODY, [], [], None)


class ShowsPaper(unittest.TestCase):
    def test_papers_told_of_one_pair_shown_of_another(self):
        drawn = [(hall, samples.all_histories(2, 2)) for hall in samples.all_halls(2)[::3]]
        drawn.append((samples.LINE, samples.all_histories(3, 2)[::9]))
        met = {True: 0, False: 0}
        for hall, histories in drawn:
            pairs = [(one, other) for one in histories[::2] for other in histories[::3]]
            for watched in (None, [0]):
                papers = [paper_for(hall, one, other, watched=watched) for one, other in pairs[::4]]
                for one, other in pairs:
                    for paper in papers:
                        right = is_paper(hall, one, other, paper, watched)
                        met[right] += 1
                        self.assertIs(shows_paper(hall, one, other, paper, watched=watched), right)
        self.assertGreater(min(met.values()), 500)

    def test_any_history_that_keeps_both(self):
        hall, one, other = ALIKE
        for history in ([(0, 2), (1,)], [(0,), (1, 2)], [(2,), (0,), (1,)], [(0,), (), (1,), (2,), ()]):
            self.assertIs(shows_paper(hall, one, other, ("alike", history)), keeps(hall, one, history))
        self.assertIs(shows_paper(hall, one, other, ("alike", [(0,), (1, 2)])), True)
        self.assertIs(shows_paper(hall, one, other, ("alike", one)), True)
        self.assertIs(shows_paper(hall, one, other, ("alike", other)), False)
        self.assertIs(shows_paper(hall, one, [(0,)], ("alike", [(0,), (1, 2)])), False)
        self.assertIs(shows_paper(hall, [(0,)], one, ("alike", [(0,), (1, 2)])), False)

    def test_any_trail_and_any_rules_that_part(self):
        hall, one, other = UNLIKE
        rules = parting_rules(hall, (2, 1, 0))
        self.assertIs(shows_paper(hall, one, other, ("unlike", (2, 1, 0), rules)), True)
        self.assertIs(shows_paper(hall, one, other, ("unlike", (2, 1), rules)), True)
        self.assertIs(shows_paper(hall, one, other, ("unlike", (2,), rules)), False)
        self.assertIs(shows_paper(hall, one, other, ("unlike", (1, 0), rules)), False)
        self.assertIs(shows_paper(hall, one, other, ("unlike", (2, 1), parting_rules(hall, (1, 0)))), False)
        self.assertIs(shows_paper(hall, one, other, ("unlike", (2, 1), [((), ())] * 3)), False)

    def test_rules_may_part_another_watched_one_than_the_trails_first(self):
        hall = ((), ())
        one, other = [(0, 1)], []
        thing = ("unlike", (0,), parting_rules(hall, (1,)))
        self.assertIs(shows_paper(hall, one, other, thing), True)
        self.assertIs(shows_paper(hall, one, other, thing, watched=[0]), False)
        self.assertIs(shows_paper(hall, one, other, thing, watched=[1]), False)

    def test_from_bare_slates_alone(self):
        hall = ((), (0,))
        one, other = [(1,)], []
        thing = ("unlike", (1,), [((), ()), ((), ((0, 3, 4),))])
        self.assertIs(shows_paper(hall, one, other, thing), False)
        self.assertIs(shows_paper(hall, one, other, ("unlike", (1,), [((), ()), ((4,), ())])), True)

    def test_bent_ones_and_the_thing_stays(self):
        for hall, one, other in (ALIKE, UNLIKE, (samples.SWAP, [(0, 1)], [(0,)])):
            paper = paper_for(hall, one, other)
            for thing in samples.variants(paper):
                before = copy.deepcopy(thing)
                right = is_paper(hall, one, other, thing)
                self.assertIs(shows_paper(hall, one, other, thing), right, thing)
                self.assertEqual(repr(thing), repr(before))

    def test_wrong_ones(self):
        hall, one, other = ALIKE
        laying = earliest(hall, one)
        for thing in (
            None, True, 0, "alike", (), [], ["alike", laying], ("alike",), ("alike", laying, None), ("unlike", laying),
            ("alike", tuple(laying)), ("alike", [[0, 2], [1]]), ("alike", [(False, 2), (True,)]), ("alike", None),
            ("Alike", laying), (["alike"], laying), (None, laying), ("unlike", (2, 1), parting_rules(hall, (2, 1))),
            laying,
        ):
            self.assertIs(shows_paper(hall, one, other, thing), False, thing)
        self.assertIs(shows_paper(hall, one, other, ("alike", laying)), True)
        hall, one, other = UNLIKE
        rules = parting_rules(hall, (2, 1))
        for thing in (
            ("unlike", [2, 1], rules), ("unlike", (2, True), rules), ("unlike", (2, 1), tuple(rules)),
            ("unlike", (2, 1)), ("unlike", (2, 1), rules, 0), ["unlike", (2, 1), rules], ("unlike", (), rules),
            ("unlike", (2, 0), rules), ("unlike", (2, 1), [list(rule) for rule in rules]),
            ("unlike", (2, 1), rules[:2]),
            ("unlike", None, None), ("alike", (2, 1), rules), ("unlike", (2, 9), rules), ("unlike", rules, (2, 1)),
        ):
            self.assertIs(shows_paper(hall, one, other, thing), False, thing)
        self.assertIs(shows_paper(hall, one, other, ("unlike", (2, 1), rules)), True)

    def test_watched(self):
        hall, one, other = UNLIKE
        paper = paper_for(hall, one, other)
        self.assertIs(shows_paper(hall, one, other, paper, watched=[2]), True)
        for watched in ([], [0], [0, 1]):
            self.assertIs(shows_paper(hall, one, other, paper, watched=watched), False)
        self.assertIs(shows_paper(hall, one, other, ("alike", [(0,), (1,)]), watched=[1]), True)
        self.assertIs(shows_paper(hall, one, other, ("alike", []), watched=[]), True)

    def test_in_all_ways_of_asking(self):
        for hall, one, other in (ALIKE, UNLIKE):
            asked = {"hall": hall, "one": one, "other": other, "thing": paper_for(hall, one, other)}
            self.assertIs(asking.check_question(self, shows_paper, asked), True)
            self.assertIs(asking.check_question(self, shows_paper, {**asked, "watched": [0]}), False)
        self.assertRaises(TypeError, shows_paper, samples.NOBODY, [], [], (), None)


class AnswersFor(unittest.TestCase):
    def test_paper_for_each(self):
        hall = samples.LINE
        histories = samples.all_histories(3, 2)[::11]
        pairs = [(one, other) for one in histories for other in histories]
        self.assertEqual(answers_for(hall, pairs), [paper_for(hall, one, other) for one, other in pairs])
        self.assertEqual(answers_for(hall, []), [])

    def test_the_same_histories_several_times(self):
        hall, one, other = UNLIKE
        told = answers_for(hall, [(one, other), (one, other), (one, one), (one, one)])
        self.assertEqual(told[0], told[1])
        self.assertEqual(told[2], told[3])
        told[0][2].clear()
        told[2][1].clear()
        self.assertEqual(told[1], paper_for(hall, one, other))
        self.assertEqual(told[3], paper_for(hall, one, one))

    def test_in_all_ways_of_asking(self):
        for hall, one, other in samples.drawn_pairs(20):
            pairs = [(one, other), (other, one), (one, one), (one, other)]
            asking.check_question(self, answers_for, {"hall": hall, "pairs": pairs})


class Likes(unittest.TestCase):
    def test_told_ones(self):
        hall = samples.LINE
        self.assertEqual(likes(hall, []), [])
        self.assertEqual(likes(hall, [[]]), [[0]])
        self.assertEqual(likes(hall, [[(0,)], [], [(), (0,)], [(1,)], [()], [(0,), (0,)]]), [[0, 2, 5], [1, 4], [3]])

    def test_against_the_trees(self):
        for hall, histories in samples.small_pairs():
            for order in (histories, histories[::-1], histories[::2] + histories[::3]):
                groups = {}
                for place, history in enumerate(order):
                    groups.setdefault(slow.last_trees(hall, history), []).append(place)
                self.assertEqual(likes(hall, order), list(groups.values()))

    def test_the_same_histories_several_times(self):
        history = [(0,), (1,)]
        told = likes(samples.LINE, [history, history, [], history])
        self.assertEqual(told, [[0, 1, 3], [2]])

    def test_in_all_ways_of_asking(self):
        for hall, one, other in samples.drawn_pairs(20):
            asking.check_question(self, likes, {"hall": hall, "histories": [one, other, one, other[:1], []]})


if __name__ == "__main__":
    unittest.main()

"""What is promised over several points together: [1] (a), (c), (f), (g), and the words in brackets of [10]."""

import unittest

import samples
import slow
from looktrails.alike import are_alike, parting_rules, parting_trail, shows_parted, unlike_persons
from looktrails.halls import beside, turned, turned_hall
from looktrails.hangs import hanging_trail, hangs_on
from looktrails.least import earliest, fewest, latest, spans
from looktrails.order import keeps, needed
from looktrails.trails import goes, longest_trail, trails_of
from looktrails.versions import version_at


def questions():
    return samples.small_questions(80, samples.small_pairs())


def pairs():
    return samples.small_comparisons(200, 12)


def with_call(history, beat, person):
    """That history with a call put in."""
    return history[:beat] + [tuple(sorted(history[beat] + (person,)))] + history[beat + 1 :]


def late_calls(hall, history):
    """All calls that may be put in, each with the history that it leads to."""
    return [
        (beat, person, with_call(history, beat, person))
        for beat in range(len(history))
        for person in range(len(hall))
        if person not in history[beat]
    ]


def passes_only_through(history, trail, beat, person):
    """Whether a trail goes, and whatever beats that fall it takes, it calls that one then."""
    ways = slow.falling_beats(history, trail)
    return bool(ways) and all((person, beat) in zip(trail, way) for way in ways)


class Parting(unittest.TestCase):
    def test_alike_or_a_trail_and_rules_that_part(self):
        for hall, one, other in pairs():
            trail = parting_trail(hall, one, other)
            same = all(
                trails_of(hall, one, person, long=5) == trails_of(hall, other, person, long=5)
                for person in range(len(hall))
            )
            if are_alike(hall, one, other):
                self.assertTrue(same)
                self.assertIsNone(trail)
            else:
                self.assertNotEqual(goes(hall, one, trail), goes(hall, other, trail))
                self.assertEqual(same, len(trail) > 5)
                thing = (parting_rules(hall, trail), [() for person in hall])
                self.assertIs(shows_parted(hall, one, other, thing, watched=[trail[0]]), True)


class TurnedAbout(unittest.TestCase):
    def test_what_goes(self):
        for hall, history in questions():
            for trail in slow.all_trails(hall, 4):
                back = goes(turned_hall(hall), turned(history), trail[::-1])
                self.assertIs(goes(hall, history, trail), back)

    def test_how_long_the_longest_trail_is(self):
        for hall, history in questions() + [samples.full_question(seed) for seed in range(5)]:
            back = longest_trail(turned_hall(hall), turned(history))
            self.assertEqual(len(longest_trail(hall, history)), len(back))

    def test_what_is_alike(self):
        for hall, one, other in pairs():
            back = are_alike(turned_hall(hall), turned(one), turned(other))
            self.assertIs(are_alike(hall, one, other), back)

    def test_how_long_the_parting_trail_is(self):
        for hall, one, other in pairs():
            told = parting_trail(hall, one, other)
            back = parting_trail(turned_hall(hall), turned(one), turned(other))
            self.assertEqual(len(told or ()), len(back or ()))


    def test_how_many_calls_and_beats_are_least(self):
        for hall, history in questions() + [samples.full_question(seed) for seed in range(5)]:
            there = turned_hall(hall), turned(history)
            self.assertEqual(fewest(hall, history), fewest(*there))
            calls = [call[0] for call in needed(hall, history)]
            self.assertEqual(sorted(call[0] for call in needed(*there)), calls)

    def test_the_latest_laying_is_the_earliest_one(self):
        for hall, history in questions():
            self.assertEqual(turned(latest(hall, history)), earliest(turned_hall(hall), turned(history)))

    def test_what_is_kept(self):
        for hall, one, other in pairs():
            back = keeps(turned_hall(hall), turned(one), turned(other))
            self.assertIs(keeps(hall, one, other), back)


class LateCalls(unittest.TestCase):
    def test_just_those_that_a_trail_through_it_leads_to(self):
        for hall, history in questions()[::3]:
            for beat, person, behind in late_calls(hall, history):
                trails = slow.all_trails(hall, len(history))
                led = {one[0] for one in trails if passes_only_through(behind, one, beat, person)}
                self.assertEqual(unlike_persons(hall, history, behind), sorted(led))
                self.assertEqual(unlike_persons(hall, behind, history), sorted(led))

    def test_what_is_seen_of_it_by_nobody_changes_its_own_slate_alone(self):
        for person in range(3):
            told = unlike_persons(samples.LINE, [()], [(person,)])
            self.assertEqual(told, [person])

    def test_hangs_on_just_those_at_which_a_trail_ends(self):
        for hall, history in questions():
            for person in range(len(hall)):
                ends = [
                    other
                    for other in range(len(hall))
                    if hanging_trail(hall, history, person, other) is not None
                ]
                self.assertEqual(hangs_on(hall, history, person), ends)


class OneBehindTheOther(unittest.TestCase):
    def test_a_trail_goes_just_where_it_can_be_cut(self):
        for hall, one, other in pairs():
            for trail in slow.all_trails(hall, 3):
                cuts = [
                    (not trail[:cut] or goes(hall, other, trail[:cut]))
                    and (not trail[cut:] or goes(hall, one, trail[cut:]))
                    for cut in range(len(trail) + 1)
                ]
                self.assertIs(goes(hall, one + other, trail), any(cuts))

    def test_alike_ones_may_be_put_for_one_another(self):
        for hall, one, other in pairs():
            if are_alike(hall, one, other):
                for third in ([], [(0,)], one[::-1], [tuple(range(len(hall)))]):
                    self.assertIs(are_alike(hall, one + third, other + third), True)
                    self.assertIs(are_alike(hall, third + one, third + other), True)


    def test_layings_may_be_put_for_either(self):
        for hall, one, other in pairs():
            for watched in (None, [0]):
                told = earliest(hall, one + other, watched=watched)
                layings = [(one, earliest(hall, other, watched=watched)), (latest(hall, one), other)]
                for first, second in layings:
                    self.assertEqual(earliest(hall, first + second, watched=watched), told)

    def test_no_more_is_needed_than_for_both(self):
        for hall, one, other in pairs():
            calls, beats = fewest(hall, one + other)
            for part in (fewest(hall, one), fewest(hall, other)):
                calls, beats = calls - part[0], beats - part[1]
            self.assertLessEqual(max(calls, beats), 0)

    def test_versions_go_on_from_where_they_stood(self):
        for hall, one, other in pairs():
            for person in range(len(hall)):
                told = version_at(hall, one + other, person, ahead=len(one))
                self.assertEqual(told, version_at(hall, one, person))


class WithoutSomePersons(unittest.TestCase):
    def test_one_who_is_never_called_is_as_if_nobody_saw_it(self):
        for hall, history in samples.drawn_questions(80):
            last = len(hall) - 1
            history = [tuple(person for person in beat if person != last) for beat in history]
            blind = tuple(tuple(seen for seen in row if seen != last) for row in hall)
            self.assertEqual(needed(hall, history), needed(blind, history))
            self.assertEqual(spans(hall, history), spans(blind, history))
            self.assertNotIn(last, [call[0] for call in needed(hall, history)])

    def test_one_whom_none_who_is_watched_comes_to_see_is_not_needed(self):
        met = 0
        for hall, history in samples.drawn_questions(80):
            for person in range(len(hall)):
                come_to = {person}
                for step in hall:
                    come_to |= {seen for one in come_to for seen in hall[one]}
                for other in set(range(len(hall))) - come_to:
                    met += 1
                    fewer = [tuple(one for one in beat if one != other) for beat in history]
                    told = earliest(hall, history, watched=[person])
                    self.assertEqual(earliest(hall, fewer, watched=[person]), told)
                    self.assertFalse([beat for beat in told if other in beat])
        self.assertGreater(met, 50)


class HallsBesideOneAnother(unittest.TestCase):
    def test_the_layings_stand_side_by_side(self):
        drawn = samples.drawn_questions(60, (1, 3), 4)
        for (hall, history), (next_hall, next_history) in zip(drawn, drawn[1:]):
            both = beside(hall, next_hall)
            many = len(hall)
            moved = [tuple(many + person for person in beat) for beat in next_history]
            for whole in (history + moved, moved + history):
                one, other = earliest(hall, history), earliest(next_hall, next_history)
                calls = fewest(hall, history)[0] + fewest(next_hall, next_history)[0]
                self.assertEqual(fewest(both, whole), (calls, max(len(one), len(other))))
                told = earliest(both, whole)
                for beat, persons in enumerate(told):
                    mine = one[beat] if beat < len(one) else ()
                    yours = other[beat] if beat < len(other) else ()
                    self.assertEqual(persons, mine + tuple(many + person for person in yours))

    def test_each_is_as_it_was(self):
        drawn = samples.drawn_pairs(40, (1, 3), 4)
        for (hall, one, other), (next_hall, next_one, next_other) in zip(drawn, drawn[1:]):
            both = beside(hall, next_hall)
            many = len(hall)
            moved = [tuple(many + person for person in beat) for beat in next_one]
            moved_other = [tuple(many + person for person in beat) for beat in next_other]
            told = unlike_persons(both, one + moved, moved_other + other)
            right = unlike_persons(hall, one, other)
            right += [many + person for person in unlike_persons(next_hall, next_one, next_other)]
            self.assertEqual(told, right)


if __name__ == "__main__":
    unittest.main()

"""The whole program: what point [2] promises of each function of the interface, and [1] (b)."""

import copy
import importlib
import inspect
import random
import unittest

import asking
import samples
import slow
from test_interface import FUNCTIONS
from looktrails.again import goings
from looktrails.alike import parting_rules, parting_trail
from looktrails.drops import deeds_between
from looktrails.further import further
from looktrails.halls import beside
from looktrails.halltexts import hall_text, history_text
from looktrails.hangs import hanging_trail
from looktrails.house import House
from looktrails.joint import paper_for
from looktrails.least import chain, earliest
from looktrails.onebyone import as_history, one_by_one, row_at, rows_many
from looktrails.order import needed
from looktrails.ends import ends, settled

HALL = ((), (0,), (0, 1, 2), (1,))
ONE = [(0, 3), (1, 2), (2,), (1,)]
OTHER = [(1,), (0, 2), (1, 2)]
ROW = [0, 1, 0, 3, 1, 2, 2]
ROW_LIKE = [0, 1, 3, 2, 2]
RULES = [((1,), ()), ((), ((0, 1, 2),)), ((3,), ((0, 1, 4), (1, 2, 3))), ((), ((1, 2, 0),))]
# One who sees itself is a RING: where there may be none this hall stands for the other one.
RINGLESS = ((), (0,), (0, 1), (1,))

# What is handed in under each name, where nothing else is told below.
COMMON = {
    "hall": HALL, "history": ONE, "one": ONE, "other": OTHER, "person": 2, "watched": [1, 2], "row": ROW,
    "rules": RULES, "first": [(), (1,), (1, 2), ()], "sums": [(1, ()), (-2, (3,)), (0, (1, -1, 2)), (5, (1,))],
    "rest": 7, "trail": (2, 1, 0), "ahead": 3, "long": 3, "beat": 1, "call": (2, 1), "persons": [0, 1, 2],
    "number": 1, "place": 2, "many": 2, "pairs": [(ONE, OTHER), (ONE, ONE)], "histories": [ONE, OTHER, ONE, []],
    "deeds": [("exchange", 2), ("drop", 1)], "text": "0 1 / - / 2",
}
OWN = {
    "beside": {"one": HALL, "other": RINGLESS},
    "hall_in": {"text": hall_text(HALL)},
    "is_hall": {"thing": HALL},
    "is_history": {"thing": ONE},
    "is_ring": {"thing": (2,)},
    "is_rules": {"thing": RULES},
    "run_sums": {"first": [0, 6, 3, 1]},
    "is_trail": {"thing": (2, 2, 1, 0)},
    "hanging_trail": {"other": 1, "person": 3, "history": [(3,)]},
    "shows_hanging": {"person": 3, "other": 1, "history": [(3,)], "thing": hanging_trail(HALL, [(3,)], 3, 1)},
    "shows_parted": {"thing": (parting_rules(HALL, parting_trail(HALL, ONE, OTHER, watched=[2])), [()] * 4)},
    "keeps": {"thing": earliest(HALL, ONE, watched=[1, 2])},
    "shows_chain": {"thing": chain(HALL, ONE, watched=[1, 2])},
    "shows_ring": {"hall": samples.SWAP, "history": [(0, 1)], "thing": ("ring", 0, (1, 0)), "watched": [0, 1]},
    "row_at": {"watched": [1, 3]},
    "led": {"row": [0, 0, 3, 2], "deeds": [("drop", 0), ("exchange", 1)]},
    "deeds_between": {"one": ROW, "other": ROW_LIKE},
    "shows_deeds": {"one": ROW, "other": ROW_LIKE, "thing": deeds_between(HALL, ROW, ROW_LIKE)},
    "shows_late": {"thing": further(HALL, ONE, OTHER, watched=[1, 2])[1]},
    "shows_paper": {"thing": paper_for(HALL, ONE, OTHER, watched=[1, 2])},
    "settled": {"hall": RINGLESS},
    "ends": {"hall": RINGLESS},
    "ends_many": {"hall": RINGLESS},
    "answers": {"text": hall_text(HALL) + "\nhouse\ncall 0 1\nwords\nundo"},
}
# Of these what's told has no list in it, so nothing can be changed.
TRUE_ONES = [name for name in OWN if name.startswith(("is_", "shows_")) or name == "keeps"]


def all_functions():
    """All functions of the interface, each with its name and with what it's handed."""
    for file, functions in FUNCTIONS.items():
        module = importlib.import_module("looktrails." + file)
        for name in functions:
            function = getattr(module, name)
            told = {**COMMON, **OWN.get(name, {})}
            yield name, function, {one: told[one] for one in inspect.signature(function).parameters}


def ask_all():
    return {name: function(**copy.deepcopy(named)) for name, function, named in all_functions()}


class EveryFunction(unittest.TestCase):
    def test_in_all_ways_of_asking(self):
        for name, function, named in all_functions():
            with self.subTest(name):
                asking.check_question(self, function, named)

    def test_what_is_shown_is_so(self):
        told = ask_all()
        for name in TRUE_ONES:
            self.assertIs(told[name], True, name)

    def test_what_is_left_out_is_what_stands_there(self):
        met = 0
        for name, function, named in all_functions():
            signature = inspect.signature(function).parameters
            left_out = {one: named[one] for one in named if signature[one].default is inspect.Parameter.empty}
            if len(left_out) < len(named):
                met += 1
                stands = {one: signature[one].default for one in named if one not in left_out}
                self.assertEqual(function(**left_out), function(**left_out, **stands), name)
        self.assertGreater(met, 15)

    def test_all_watched_is_as_none(self):
        for name, function, named in all_functions():
            if "watched" in named:
                everyone = list(range(len(named["hall"])))
                told = function(**{**named, "watched": everyone})
                self.assertEqual(told, function(**{**named, "watched": None}), name)

    def test_each_told_list_changed_and_all_asked_again(self):
        right = copy.deepcopy(ask_all())
        told = ask_all()
        for answer in told.values():
            asking.spoil(answer)
        self.assertEqual(ask_all(), right)
        known = [one for answer in told.values() for one in asking.lists_in(answer)]
        self.assertEqual(len({id(one) for one in known}), len(known))

    def test_behind_a_star_by_name_alone(self):
        for name, function, named in all_functions():
            stars = [
                one for one, told in inspect.signature(function).parameters.items()
                if told.kind is inspect.Parameter.KEYWORD_ONLY
            ]
            self.assertLessEqual(set(stars), {"watched", "ahead", "long", "rest"})
            if stars:
                places = [thing for one, thing in named.items()]
                self.assertRaises(TypeError, function, *places)


class HandedInAgain(unittest.TestCase):
    """What was told may be handed in again, whatever its size."""

    def test_goings_of_the_largest_histories(self):
        hall, history = samples.full_question(5)
        wide = beside(hall, hall)
        moved = [beat + tuple(8 + person for person in beat) for beat in history]
        for where, long in ((hall, goings(history, 6)), (wide, goings(moved, 2))):
            laying = earliest(where, long)
            self.assertEqual(earliest(where, laying), laying)
            self.assertEqual(further(where, [], long), ("goes", laying))
            self.assertEqual(paper_for(where, long, laying), ("alike", laying))
            self.assertIn(one_by_one(where, long)[0], ("row", "ring"))
            self.assertEqual(len(history_text(long).split(" / ")), len(long))
            house = House(where)
            for beat in laying[:100]:
                house.call(beat)
            self.assertEqual(house.least(), earliest(where, laying[:100]))

    def test_rows_of_more_than_31_calls(self):
        hall = tuple(tuple(range(person)) for person in range(8))
        row = one_by_one(hall, goings([(person,) for person in range(7, -1, -1)], 6))[1]
        self.assertEqual(one_by_one(hall, as_history(row)), ("row", row))
        self.assertEqual(deeds_between(hall, row, row), [])
        self.assertEqual(settled(beside(hall, hall)), list(range(16)))

    def test_what_was_told_as_a_tuple_in_the_place_of_a_list(self):
        call = needed(HALL, ONE)[0]
        self.assertEqual(type(call), tuple)
        for row in ends(RINGLESS):
            self.assertEqual(one_by_one(RINGLESS, as_history(tuple(row))), ("row", row))
        self.assertEqual(row_at(RINGLESS, ONE, rows_many(RINGLESS, ONE) - 1), sorted(
            row_at(RINGLESS, ONE, number) for number in range(rows_many(RINGLESS, ONE)))[-1])


class NoVersionComesBack(unittest.TestCase):
    def rows_of(self, hall, history, person):
        """That person's trees, one behind the other."""
        told = []
        for row in slow.tree_rows(hall, history):
            if not told or told[-1] != row[person]:
                told.append(row[person])
        return told

    def test_once_it_is_gone(self):
        for hall, history in samples.small_questions(100, samples.small_pairs()):
            for person in range(len(hall)):
                told = self.rows_of(hall, history, person)
                self.assertEqual(len(set(told)), len(told))

    def test_in_one_order_in_both(self):
        source = random.Random(2)
        for hall, one, other in samples.drawn_pairs(200, (2, 4), 6):
            third = samples.random_history(source, len(hall), 5)
            for first, second in ((one, other), (one, third), (one + third, third + other)):
                for person in range(len(hall)):
                    mine, yours = self.rows_of(hall, first, person), self.rows_of(hall, second, person)
                    shared = [tree for tree in mine if tree in yours]
                    self.assertEqual(shared, [tree for tree in yours if tree in mine])


if __name__ == "__main__":
    unittest.main()

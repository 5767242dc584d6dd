"""The interface: which names there are, and how each takes its arguments."""

import importlib
import inspect
import unittest

FUNCTIONS = {
    "halls": {
        "is_hall": "(thing)",
        "is_history": "(hall, thing)",
        "seers": "(hall, person)",
        "turned_hall": "(hall)",
        "turned": "(history)",
        "beside": "(one, other)",
        "calls_in": "(history)",
    },
    "rings": {
        "is_ring": "(hall, thing)",
        "ring_among": "(hall, persons)",
        "ringless": "(hall)",
        "seen_first": "(hall)",
    },
    "halltexts": {
        "hall_text": "(hall)",
        "history_text": "(history)",
        "hall_in": "(text)",
        "history_in": "(hall, text)",
    },
    "runs": {
        "is_rules": "(hall, thing)",
        "run_marks": "(hall, history, rules, first)",
        "run_sums": "(hall, history, sums, first, *, rest)",
    },
    "trails": {
        "is_trail": "(hall, thing)",
        "dates": "(hall, history, trail, *, ahead=None)",
        "goes": "(hall, history, trail)",
        "trails_of": "(hall, history, person, *, long=4)",
        "longest_trail": "(hall, history)",
    },
    "hangs": {
        "hangs_on": "(hall, history, person)",
        "hanging_trail": "(hall, history, person, other)",
        "shows_hanging": "(hall, history, person, other, thing)",
    },
    "alike": {
        "are_alike": "(hall, one, other, *, watched=None)",
        "unlike_persons": "(hall, one, other)",
        "parting_trail": "(hall, one, other, *, watched=None)",
        "parting_rules": "(hall, trail)",
        "shows_parted": "(hall, one, other, thing, *, watched=None)",
    },
    "versions": {
        "version_at": "(hall, history, person, *, ahead=None)",
        "written_at": "(hall, history, person)",
        "seen_at": "(hall, history, beat, person)",
        "words": "(hall, history, *, watched=None)",
    },
    "common": {
        "common": "(hall, one, other, person)",
    },
    "order": {
        "needed": "(hall, history, *, watched=None)",
        "sights": "(hall, history, call, *, watched=None)",
        "bounds": "(hall, history, *, watched=None)",
        "keeps": "(hall, history, thing, *, watched=None)",
    },
    "least": {
        "earliest": "(hall, history, *, watched=None)",
        "latest": "(hall, history, *, watched=None)",
        "fewest": "(hall, history, *, watched=None)",
        "chain": "(hall, history, *, watched=None)",
        "spans": "(hall, history, *, watched=None)",
        "shows_chain": "(hall, history, thing, *, watched=None)",
    },
    "onebyone": {
        "as_history": "(row)",
        "one_by_one": "(hall, history, *, watched=None)",
        "shows_ring": "(hall, history, thing, *, watched=None)",
        "rows_many": "(hall, history, *, watched=None)",
        "row_at": "(hall, history, number, *, watched=None)",
    },
    "drops": {
        "drop_word": "(hall, row, place)",
        "may_exchange": "(hall, row, place)",
        "led": "(hall, row, deeds)",
        "deeds_between": "(hall, one, other)",
        "shows_deeds": "(hall, one, other, thing)",
    },
    "further": {
        "further": "(hall, one, other, *, watched=None)",
        "shows_late": "(hall, one, other, thing, *, watched=None)",
    },
    "again": {
        "goings": "(history, many)",
        "settles": "(hall, history)",
    },
    "ends": {
        "settled": "(hall)",
        "ends": "(hall)",
        "ends_many": "(hall)",
    },
    "joint": {
        "paper_for": "(hall, one, other, *, watched=None)",
        "shows_paper": "(hall, one, other, thing, *, watched=None)",
        "answers_for": "(hall, pairs)",
        "likes": "(hall, histories)",
    },
    "desk": {
        "answers": "(text)",
    },
}


class Interface(unittest.TestCase):
    def test_names_and_arguments(self):
        for file, functions in FUNCTIONS.items():
            module = importlib.import_module("looktrails." + file)
            for name, arguments in functions.items():
                function = getattr(module, name)
                self.assertTrue(inspect.isfunction(function), name)
                self.assertEqual(str(inspect.signature(function)), arguments, name)


if __name__ == "__main__":
    unittest.main()

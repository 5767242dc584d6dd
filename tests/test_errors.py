"""The refusals: the interface's section on errors.py."""

import inspect
import unittest

from looktrails import errors

FIELDS = {
    "BadRow": (ValueError, "row"),
    "BadText": (ValueError, "beat"),
    "BadDeed": (ValueError, "number"),
    "Unlike": (ValueError, None),
    "NoBeat": (LookupError, "beat"),
    "NoPerson": (LookupError, "person"),
    "NoRow": (LookupError, "number"),
    "Called": (RuntimeError, "person"),
    "NotCalled": (RuntimeError, "person"),
    "Endless": (RuntimeError, "ring"),
    "TooMany": (OverflowError, "many"),
}
THINGS = (0, 7, -1, 10**5000, True, None, "", "x", (), (0, 1), [], [2, (3, [4])], ((0,), [1]))


class Errors(unittest.TestCase):
    def with_field(self):
        for name, (base, field) in FIELDS.items():
            if field is not None:
                yield getattr(errors, name), field

    def test_each_stands_straight_under_its_own(self):
        for name, (base, field) in FIELDS.items():
            self.assertEqual(getattr(errors, name).__bases__, (base,), name)

    def test_there_are_no_others(self):
        found = [
            name
            for name, thing in inspect.getmembers(errors, inspect.isclass)
            if thing.__module__ == "looktrails.errors"
        ]
        self.assertEqual(sorted(found), sorted(FIELDS))

    def test_made_by_place_and_by_name(self):
        for kind, field in self.with_field():
            for thing in THINGS:
                for made in (kind(thing), kind(**{field: thing})):
                    told = getattr(made, field)
                    self.assertIs(type(told), type(thing), kind)
                    # Compared without a message: such long numbers can't be written.
                    self.assertTrue(told == thing, kind)

    def test_made_with_just_that(self):
        for kind, field in self.with_field():
            self.assertRaises(TypeError, kind)
            self.assertRaises(TypeError, kind, 1, 2)
            self.assertRaises(TypeError, lambda: kind(other=1))

    def test_unlike_is_made_with_nothing(self):
        made = errors.Unlike()
        self.assertIsInstance(made, ValueError)
        self.assertRaises(TypeError, errors.Unlike, 1)

    def test_raised_and_caught_by_name(self):
        for kind, field in self.with_field():
            with self.assertRaises(kind) as caught:
                raise kind(3)
            self.assertEqual(getattr(caught.exception, field), 3)

    def test_caught_as_no_other(self):
        for name in FIELDS:
            for other in FIELDS:
                if name != other:
                    self.assertFalse(issubclass(getattr(errors, name), getattr(errors, other)))

    def test_a_change_behind_is_not_seen(self):
        for kind, field in self.with_field():
            thing = [0, [1], ([2],)]
            made = kind(thing)
            thing[1].append(9)
            thing[2][0].append(9)
            thing.append(9)
            self.assertEqual(getattr(made, field), [0, [1], ([2],)])

    def test_two_are_apart(self):
        for kind, field in self.with_field():
            one, other = kind(1), kind(2)
            self.assertEqual((getattr(one, field), getattr(other, field)), (1, 2))


if __name__ == "__main__":
    unittest.main()

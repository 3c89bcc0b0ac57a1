"""Promise 3: the refusals and the bounds."""

import unittest

from samples import ANYTHING
from weighdoors import bounds, errors

REFUSALS = {
    "NoText": (ValueError, ("row",)),
    "NoDeed": (ValueError, ("why",)),
    "NoWay": (ValueError, ("at", "why")),
    "NoGoal": (ValueError, ("at",)),
    "NoTurning": (ValueError, ("at",)),
    "NoName": (KeyError, ("asked",)),
    "NoReply": (KeyError, ("asked",)),
    "NoNumber": (IndexError, ("asked",)),
    "NoMoment": (IndexError, ("asked",)),
    "NoPlan": (LookupError, ()),
    "NoMore": (LookupError, ("word",)),
    "NotRising": (ArithmeticError, ("name",)),
    "Unlike": (ArithmeticError, ()),
    "TooMany": (OverflowError, ("most",)),
    "NoBack": (RuntimeError, ("at",)),
    "NotMet": (RuntimeError, ()),
}

BOUNDS = {
    "MOST_ROOMS": 40, "MOST_DOORS": 60, "MOST_STONES": 12, "MOST_WALKERS": 6, "MOST_ROWS": 4,
    "MOST_HEFT": 9999999, "MOST_HANDS": 9, "MOST_SPOTS": 2000, "MOST_TURNINGS": 200,
    "STEPS": (1, 1, 1, 1), "LAYINGS": (0, 0, 1, 0),
}


class RefusalsTest(unittest.TestCase):
    def test_each_is_straight_under_the_told_error(self):
        for name, (base, _) in REFUSALS.items():
            made = getattr(errors, name)
            self.assertEqual(made.__bases__, (base,), name)
            self.assertEqual(made.__module__, "weighdoors.errors")

    def test_made_by_places_of_anything(self):
        for name, (base, fields) in REFUSALS.items():
            for thing in ANYTHING:
                values = [thing, ["other"]][:len(fields)]
                made = getattr(errors, name)(*values)
                self.assertIsInstance(made, base)
                for field, value in zip(fields, values):
                    self.assertIs(getattr(made, field), value)

    def test_made_by_names_of_anything(self):
        for name, (_, fields) in REFUSALS.items():
            for thing in ANYTHING:
                values = dict(zip(reversed(fields), [thing, {"other": 1}]))
                made = getattr(errors, name)(**values)
                for field in fields:
                    self.assertIs(getattr(made, field), values[field])

    def test_all_fields_are_needed_and_no_more(self):
        for name, (_, fields) in REFUSALS.items():
            made = getattr(errors, name)
            if fields:
                self.assertRaises(TypeError, made)
                self.assertRaises(TypeError, made, *fields, "more")

    def test_raised_and_caught_by_the_told_error(self):
        for name, (base, fields) in REFUSALS.items():
            with self.assertRaises(base):
                raise getattr(errors, name)(*fields)


class BoundsTest(unittest.TestCase):
    def test_values_and_kinds(self):
        for name, value in BOUNDS.items():
            self.assertEqual(getattr(bounds, name), value, name)
            self.assertIs(type(getattr(bounds, name)), type(value))


if __name__ == "__main__":
    unittest.main()

"""Point [5] and panethread/errors.py."""

import unittest

from panethread import errors
from panethread.errors import PaneError

from common import Case, odd_things

FIELDS = {
    "NoRow": ("found",), "NoPlain": ("found",), "NoNames": ("found",), "NoLetter": ("found",),
    "NoPlace": ("found",), "NoSpan": ("begin", "end"), "NoThread": ("found",), "NoTurning": ("found",),
    "NoCounts": ("found",), "NoSteps": ("found",), "NoCells": ("found",), "NoWindow": ("found",),
    "NoPiece": ("found",), "Unlike": ("one", "other"), "TooLong": ("found",), "NoChanges": ("found",),
    "NoStretches": ("found",), "NoPart": ("found",), "NoNear": ("found",), "NoTold": ("found",),
    "NoWords": ("found",),
}


class Errors(Case):
    def test_pane_error_stands_under_value_error(self):
        self.assertTrue(issubclass(PaneError, ValueError))
        self.assertIsNot(PaneError, ValueError)
        self.assertIs(type(PaneError("some words")), PaneError)
        with self.assertRaises(ValueError):
            raise PaneError("some words")

    def test_each_refusal_stands_straight_under_pane_error(self):
        for name in FIELDS:
            self.assertEqual(getattr(errors, name).__bases__, (PaneError,), name)

    def test_no_refusal_is_another_one(self):
        for name in FIELDS:
            for other in FIELDS:
                one = getattr(errors, name)
                self.assertEqual(issubclass(one, getattr(errors, other)), name == other, (name, other))

    def test_the_fields_hold_the_very_things(self):
        for name, fields in FIELDS.items():
            refusal = getattr(errors, name)
            for thing in odd_things():
                shown = repr(thing)
                for place, field in enumerate(fields):
                    handed = ["something else"] * len(fields)
                    handed[place] = thing
                    error = refusal(*handed)
                    self.assertIs(getattr(error, field), thing, (name, field))
                    self.assertIs(type(error), refusal)
                self.assertEqual(repr(thing), shown)

    def test_two_fields_are_not_exchanged(self):
        for name in ("NoSpan", "Unlike"):
            one, other = [1], [1]
            error = getattr(errors, name)(one, other)
            self.assertIs(getattr(error, FIELDS[name][0]), one)
            self.assertIs(getattr(error, FIELDS[name][1]), other)

    def test_they_are_caught_by_each_of_their_classes(self):
        for name, fields in FIELDS.items():
            refusal = getattr(errors, name)
            for caught in (refusal, PaneError, ValueError):
                with self.assertRaises(caught):
                    raise refusal(*[None] * len(fields))


if __name__ == "__main__":
    unittest.main()

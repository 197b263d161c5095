"""Point 8, and failslack/errors.py under the interface."""

import unittest

from failslack import errors
from failslack.errors import SlackError
from tests.things import all_things

VALUES = {
    "BadPieces": ("at", "why"), "BadText": ("at", "why"), "NoPiece": ("found",), "NoTurn": ("found",),
    "NoStretch": ("found",), "NoFailings": ("found",), "NoCounts": ("found",), "NotRefused": (),
    "Past": ("last",), "Waits": ("name",), "NoWord": (), "NoFailing": (), "NoRest": ("start", "end"),
    "Over": (), "NoLine": ("found",), "NotKept": (), "BadSeries": ("at", "why"),
}

KINDS = [(getattr(errors, name), values) for name, values in VALUES.items()]


class ErrorsTest(unittest.TestCase):
    def test_slack_error_stands_under_value_error_and_has_a_text(self):
        self.assertEqual(SlackError.__bases__, (ValueError,))
        self.assertEqual(str(SlackError("why it is so")), "why it is so")

    def test_each_class_stands_straight_under_slack_error(self):
        for kind, _ in KINDS:
            self.assertEqual(kind.__bases__, (SlackError,), kind)

    def test_none_stands_under_another_one(self):
        self.assertEqual(len(KINDS), 17)
        for one, _ in KINDS:
            for other, _ in KINDS:
                self.assertEqual(issubclass(one, other), one is other, (one, other))

    def test_there_are_no_other_refusals(self):
        there = [name for name, kind in vars(errors).items() if isinstance(kind, type)]
        self.assertEqual(sorted(there), sorted([*VALUES, "SlackError"]))

    def test_each_class_has_the_name_of_the_interface(self):
        self.assertEqual([kind.__name__ for kind, _ in KINDS], list(VALUES))

    def test_values_are_the_very_things_each_its_own(self):
        for kind, values in KINDS:
            handed = [[place] for place in range(len(values))]
            error = kind(*handed)
            for value, given in zip(values, handed):
                self.assertIs(getattr(error, value), given, (kind, value))

    def test_values_may_be_any_things(self):
        for kind, values in KINDS:
            for thing in all_things():
                error = kind(*[thing for _ in values])
                for value in values:
                    self.assertIs(getattr(error, value), thing, (kind, value))

    def test_what_is_changed_behind_is_changed_there(self):
        for kind, values in KINDS:
            handed = [[place] for place in range(len(values))]
            error = kind(*handed)
            for given in handed:
                given.append("more")
            self.assertEqual([getattr(error, value) for value in values],
                             [[place, "more"] for place in range(len(values))], kind)

    def test_no_value_of_another_name(self):
        for kind, values in KINDS:
            self.assertEqual(sorted(vars(kind(*range(len(values))))), sorted(values), kind)

    def test_each_is_caught_as_a_slack_error_and_has_a_text(self):
        for kind, values in KINDS:
            with self.assertRaises(SlackError) as caught:
                raise kind(*[None for _ in values])
            self.assertIsInstance(caught.exception, ValueError)
            self.assertNotEqual(str(caught.exception), "")

    def test_each_is_made_of_just_its_values(self):
        for kind, values in KINDS:
            with self.assertRaises(TypeError):
                kind(*range(len(values) + 1))
            if values:
                with self.assertRaises(TypeError):
                    kind(*range(len(values) - 1))


if __name__ == "__main__":
    unittest.main()

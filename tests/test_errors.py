"""The classes of everymeets.errors, and which stands under which."""

import unittest

from everymeets import errors

NAMES = ["BadTeams", "BadTeam", "BadRound", "BadPlan", "Alike", "NotGood"]


class ErrorsTest(unittest.TestCase):
    def test_meet_error_is_straight_under_value_error(self):
        self.assertEqual(errors.MeetError.__bases__, (ValueError,))

    def test_the_others_are_straight_under_meet_error(self):
        for name in NAMES:
            with self.subTest(name=name):
                self.assertEqual(getattr(errors, name).__bases__, (errors.MeetError,))

    def test_all_are_defined_in_their_file_under_their_names(self):
        for name in ["MeetError"] + NAMES:
            with self.subTest(name=name):
                kind = getattr(errors, name)
                self.assertEqual(kind.__name__, name)
                self.assertEqual(kind.__module__, "everymeets.errors")

    def test_all_are_different_classes(self):
        kinds = [getattr(errors, name) for name in ["MeetError"] + NAMES]
        self.assertEqual(len(set(kinds)), 7)

    def test_each_can_be_raised_and_caught_as_a_meet_error(self):
        for name in NAMES:
            with self.subTest(name=name):
                with self.assertRaises(errors.MeetError):
                    raise getattr(errors, name)("a message")


if __name__ == "__main__":
    unittest.main()

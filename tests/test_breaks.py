"""Promise 3: the breaks of the told plan."""

import unittest

from everymeets.plans import at_home, break_of
from tests.helping import FORTY_FIGURES, HUGE, at_once, drawn

SMALL = list(range(2, 42, 2)) + [64, 66, 100, 102]


def breaks_in(teams, team, number):
    """Tell, by its places in two rounds, whether a team breaks in a round."""
    if number == 0:
        return False
    return at_home(teams, team, number) == at_home(teams, team, number - 1)


class SmallBreaksTest(unittest.TestCase):
    def test_break_of_tells_the_only_break(self):
        for teams in SMALL:
            for team in range(teams):
                told = break_of(teams, team)
                found = [number for number in range(teams - 1) if breaks_in(teams, team, number)]
                self.assertEqual(found, [] if told is None else [told], (teams, team))

    def test_a_break_is_a_round_but_not_the_first_one(self):
        for teams in SMALL:
            for team in range(teams):
                told = break_of(teams, team)
                if told is not None:
                    self.assertIs(type(told), int, (teams, team))
                    self.assertTrue(0 < told < teams - 1, (teams, team))

    def test_just_two_teams_never_break(self):
        for teams in SMALL + [1000, 1002]:
            told = [break_of(teams, team) for team in range(teams)]
            self.assertEqual(len([one for one in told if one is None]), 2, teams)

    def test_the_two_that_never_break_have_unlike_turns(self):
        for teams in SMALL:
            one, other = [team for team in range(teams) if break_of(teams, team) is None]
            for number in range(teams - 1):
                self.assertNotEqual(
                    at_home(teams, one, number), at_home(teams, other, number), (teams, number)
                )

    def test_of_two_teams_none_breaks(self):
        self.assertIsNone(break_of(2, 0))
        self.assertIsNone(break_of(2, 1))

    def test_asked_again_the_same_is_told(self):
        for teams in (4, 30, 10 ** 40):
            asked = drawn(teams, 10, "again")
            before = [break_of(teams, team) for team in asked]
            self.assertEqual([break_of(teams, team) for team in asked], before)

    def test_arguments_have_the_names_of_the_interface(self):
        self.assertEqual(break_of(teams=8, team=2), break_of(8, 2))


class LargeBreaksTest(unittest.TestCase):
    def check_break(self, teams, team, told):
        self.assertTrue(type(told) is int and 0 < told < teams - 1)
        self.assertTrue(breaks_in(teams, team, told))
        about = [1, told - 2, told - 1, told + 1, told + 2, teams - 3, teams - 2]
        self.check_none(teams, team, [number for number in about if number != told])

    def check_none(self, teams, team, numbers):
        for number in numbers:
            if 0 <= number < teams - 1:
                self.assertFalse(breaks_in(teams, team, number))

    def test_the_told_round_is_a_break_and_those_about_it_are_none(self):
        for at, teams in enumerate(HUGE):
            with self.subTest(at=at), at_once():
                for team in drawn(teams, 60, "teams"):
                    told = break_of(teams, team)
                    if told is not None:
                        self.check_break(teams, team, told)

    def test_drawn_rounds_other_than_the_told_one_are_no_breaks(self):
        for at, teams in enumerate(HUGE):
            rounds = drawn(teams - 1, 40, "rounds")
            with self.subTest(at=at), at_once():
                for team in drawn(teams, 10, "teams"):
                    told = break_of(teams, team)
                    others = [number for number in rounds if number != told]
                    self.check_none(teams, team, others)

    def test_at_most_two_of_drawn_teams_never_break(self):
        for at, teams in enumerate(HUGE):
            with self.subTest(at=at), at_once():
                told = [break_of(teams, team) for team in drawn(teams, 200, "many")]
                self.assertLessEqual(len([one for one in told if one is None]), 2)

    def test_a_round_and_its_break_are_told_at_once(self):
        for teams in FORTY_FIGURES:
            with self.subTest(teams=teams), at_once():
                for team in drawn(teams, 300, "at once"):
                    break_of(teams, team)


if __name__ == "__main__":
    unittest.main()

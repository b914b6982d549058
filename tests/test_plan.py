"""Promise 2: the told plan, whom a team meets, when, and who is at home."""

import unittest

from everymeets.plans import at_home, opponent, round_of
from tests.helping import FORTY_FIGURES, HUGE, at_once, drawn

SMALL = list(range(2, 32, 2)) + [50, 64, 66, 100]


class SmallPlanTest(unittest.TestCase):
    def test_a_team_meets_another_one_of_the_teams(self):
        for teams in SMALL:
            for number in range(teams - 1):
                for team in range(teams):
                    met = opponent(teams, team, number)
                    self.assertIs(type(met), int, (teams, team, number))
                    self.assertTrue(0 <= met < teams, (teams, team, number))
                    self.assertNotEqual(met, team, (teams, team, number))

    def test_whom_a_team_meets_meets_that_team(self):
        for teams in SMALL:
            for number in range(teams - 1):
                for team in range(teams):
                    met = opponent(teams, team, number)
                    self.assertEqual(opponent(teams, met, number), team, (teams, team, number))

    def test_no_team_is_met_twice_in_a_round(self):
        for teams in SMALL:
            for number in range(teams - 1):
                met = [opponent(teams, team, number) for team in range(teams)]
                self.assertEqual(sorted(met), list(range(teams)), (teams, number))

    def test_each_two_teams_meet_in_just_one_round(self):
        for teams in SMALL:
            for team in range(teams):
                met = [opponent(teams, team, number) for number in range(teams - 1)]
                others = [other for other in range(teams) if other != team]
                self.assertEqual(sorted(met), others, (teams, team))

    def test_round_of_tells_the_round_in_which_they_meet(self):
        for teams in SMALL:
            for number in range(teams - 1):
                for team in range(teams):
                    met = opponent(teams, team, number)
                    self.assertEqual(round_of(teams, team, met), number, (teams, team, met))

    def test_round_of_tells_a_number_and_the_same_for_both_orders(self):
        for teams in SMALL:
            for one in range(teams):
                for other in range(one):
                    told = round_of(teams, one, other)
                    self.assertIs(type(told), int, (teams, one, other))
                    self.assertTrue(0 <= told < teams - 1, (teams, one, other))
                    self.assertEqual(round_of(teams, other, one), told, (teams, one, other))
                    self.assertEqual(opponent(teams, one, told), other, (teams, one, other))

    def test_just_one_of_two_that_meet_is_at_home(self):
        for teams in SMALL:
            for number in range(teams - 1):
                for team in range(teams):
                    home = at_home(teams, team, number)
                    met = opponent(teams, team, number)
                    self.assertIs(type(home), bool, (teams, team, number))
                    self.assertIs(at_home(teams, met, number), not home, (teams, team, number))

    def test_two_teams_have_one_round(self):
        self.assertEqual(opponent(2, 0, 0), 1)
        self.assertEqual(opponent(2, 1, 0), 0)
        self.assertEqual(round_of(2, 0, 1), 0)
        self.assertEqual(round_of(2, 1, 0), 0)
        self.assertEqual([at_home(2, 0, 0), at_home(2, 1, 0)].count(True), 1)

    def test_asked_again_the_same_is_told(self):
        self.assertEqual(whole_plan(12), whole_plan(12))
        self.assertEqual(whole_plan(12), asked_backwards(12))

    def test_other_counts_asked_between_change_nothing(self):
        before = [whole_plan(teams) for teams in (6, 10)]
        for teams in (2, 8, 10 ** 40, 6):
            opponent(teams, 0, 0)
            round_of(teams, 0, 1)
        self.assertEqual([whole_plan(teams) for teams in (6, 10)], before)

    def test_arguments_have_the_names_of_the_interface(self):
        self.assertEqual(opponent(teams=8, team=2, number=4), opponent(8, 2, 4))
        self.assertEqual(at_home(teams=8, team=2, number=4), at_home(8, 2, 4))
        self.assertEqual(round_of(teams=8, one=2, other=4), round_of(8, 2, 4))


class LargePlanTest(unittest.TestCase):
    def check_meeting(self, teams, team, number):
        met = opponent(teams, team, number)
        home = at_home(teams, team, number)
        self.assertTrue(type(met) is int and 0 <= met < teams and met != team)
        self.assertTrue(opponent(teams, met, number) == team)
        self.assertTrue(round_of(teams, team, met) == number)
        self.assertTrue(round_of(teams, met, team) == number)
        self.assertIs(type(home), bool)
        self.assertIs(at_home(teams, met, number), not home)

    def check_two(self, teams, one, other):
        number = round_of(teams, one, other)
        self.assertTrue(type(number) is int and 0 <= number < teams - 1)
        self.assertTrue(round_of(teams, other, one) == number)
        self.assertTrue(opponent(teams, one, number) == other)
        self.assertTrue(opponent(teams, other, number) == one)

    def test_meetings_of_drawn_teams_in_drawn_rounds(self):
        for at, teams in enumerate(HUGE):
            with self.subTest(at=at), at_once():
                for team in drawn(teams, 20, "teams"):
                    for number in drawn(teams - 1, 20, "rounds"):
                        self.check_meeting(teams, team, number)

    def test_the_round_of_drawn_teams(self):
        for at, teams in enumerate(HUGE):
            with self.subTest(at=at), at_once():
                for one in drawn(teams, 15, "ones"):
                    for other in drawn(teams, 15, "others"):
                        if one != other:
                            self.check_two(teams, one, other)

    def test_a_team_does_not_meet_one_twice_in_drawn_rounds(self):
        for at, teams in enumerate(HUGE):
            with self.subTest(at=at), at_once():
                rounds = drawn(teams - 1, 60, "more rounds")
                for team in drawn(teams, 5, "more teams"):
                    met = {opponent(teams, team, number) for number in rounds}
                    self.assertEqual(len(met), len(rounds))

    def test_asked_again_the_same_is_told(self):
        for teams in FORTY_FIGURES:
            with self.subTest(teams=teams), at_once():
                self.assertEqual(some_of_plan(teams), some_of_plan(teams))

    def test_counts_between_small_and_large(self):
        for teams in list(range(102, 1000, 34)) + [10 ** 4, 10 ** 5 + 2, 10 ** 6 + 6]:
            with self.subTest(teams=teams), at_once():
                for team in drawn(teams, 12, "teams"):
                    for number in drawn(teams - 1, 12, "rounds"):
                        self.check_meeting(teams, team, number)


def whole_plan(teams):
    """All that is told of a plan."""
    return {
        (team, number): (opponent(teams, team, number), at_home(teams, team, number))
        for number in range(teams - 1)
        for team in range(teams)
    }


def asked_backwards(teams):
    """All that is told of a plan, if the last round is asked of first."""
    return {
        (team, number): (opponent(teams, team, number), at_home(teams, team, number))
        for team in reversed(range(teams))
        for number in reversed(range(teams - 1))
    }


def some_of_plan(teams):
    """What is told of some teams and rounds of a large plan."""
    return [
        (opponent(teams, team, number), at_home(teams, team, number))
        for team in drawn(teams, 10, "teams")
        for number in drawn(teams - 1, 10, "rounds")
    ]


if __name__ == "__main__":
    unittest.main()

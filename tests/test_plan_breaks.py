"""Promise 5: all breaks of a good plan."""

import itertools
import random
import unittest

from everymeets.judging import breaks
from everymeets.plans import break_of
from tests.making import COUNTS, good_plans, pairs_turned, plans_of_whole_rounds, told_plan


def sides(plan, team):
    """Of each round, whether a team is at home in it."""
    return [[pair[0] for pair in pairs].count(team) == 1 for pairs in plan]


def counted(teams, plan):
    """The breaks of a plan, counted team by team."""
    found = []
    for team in range(teams):
        turns = sides(plan, team)
        found += [(number + 1, team) for number in range(len(plan) - 1) if turns[number] == turns[number + 1]]
    return sorted(found)


class BreaksTest(unittest.TestCase):
    def test_breaks_of_the_told_plan_are_those_of_break_of(self):
        for teams in COUNTS:
            with self.subTest(teams=teams):
                told = [(break_of(teams, team), team) for team in range(teams)]
                wanted = sorted(pair for pair in told if pair[0] is not None)
                self.assertEqual(breaks(teams, told_plan(teams)), wanted)
                self.assertEqual(len(wanted), teams - 2)

    def test_breaks_of_good_plans(self):
        for teams in COUNTS:
            for name, plan in good_plans(teams):
                with self.subTest(teams=teams, plan=name):
                    self.assertEqual(breaks(teams, plan), counted(teams, plan))

    def test_breaks_of_all_good_plans_of_four_teams(self):
        for plan in plans_of_whole_rounds(4, 3):
            if len({str(pairs) for pairs in plan}) == 3:
                for turns in itertools.product([1, -1], repeat=6):
                    left = list(turns)
                    turned = [[pair[::left.pop()] for pair in pairs] for pairs in plan]
                    self.assertEqual(breaks(4, turned), counted(4, turned))

    def test_breaks_of_plans_with_pairs_turned(self):
        source = random.Random("turned")
        for _ in range(200):
            teams = source.choice(COUNTS)
            plan = pairs_turned(told_plan(teams), source)
            with self.subTest(plan=plan):
                self.assertEqual(breaks(teams, plan), counted(teams, plan))

    def test_never_fewer_than_two_less_than_the_teams(self):
        source = random.Random("fewer")
        for teams in COUNTS:
            for _, plan in good_plans(teams):
                self.assertGreaterEqual(len(breaks(teams, plan)), teams - 2)
                self.assertGreaterEqual(len(breaks(teams, pairs_turned(plan, source))), teams - 2)

    def test_two_teams_have_no_break(self):
        self.assertEqual(breaks(2, [[(0, 1)]]), [])
        self.assertEqual(breaks(2, [[(1, 0)]]), [])

    def test_plans_written_by_hand(self):
        plan = [[(0, 1), (2, 3)], [(0, 2), (1, 3)], [(0, 3), (1, 2)]]
        self.assertEqual(breaks(4, plan), [(1, 0), (1, 3), (2, 0), (2, 1), (2, 2), (2, 3)])
        plan = [[(0, 1), (2, 3)], [(3, 0), (1, 2)], [(0, 2), (1, 3)]]
        self.assertEqual(breaks(4, plan), [(2, 1), (2, 2)])

    def test_a_list_of_tuples_of_numbers_in_order(self):
        for teams in COUNTS:
            for name, plan in good_plans(teams):
                with self.subTest(teams=teams, plan=name):
                    told = breaks(teams, plan)
                    self.assertIs(type(told), list)
                    for pair in told:
                        self.assertIs(type(pair), tuple)
                        self.assertEqual([type(one) for one in pair], [int, int])
                    self.assertEqual(told, sorted(set(told)))

    def test_two_calls_tell_equal_lists_that_are_not_one(self):
        for teams in COUNTS:
            plan = told_plan(teams)
            one, other = breaks(teams, plan), breaks(teams, plan)
            self.assertEqual(one, other)
            self.assertIsNot(one, other)
            one.clear()
            self.assertEqual(breaks(teams, plan), other)

    def test_arguments_have_the_names_of_the_interface(self):
        self.assertEqual(breaks(teams=6, plan=told_plan(6)), breaks(6, told_plan(6)))


if __name__ == "__main__":
    unittest.main()

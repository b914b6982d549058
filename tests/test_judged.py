"""Promise 4: what is told of a plan, for good plans and for wrong ones."""

import itertools
import random
import unittest

from everymeets.answers import Answer, Good, Lone, Never, Twice
from everymeets.judging import judged
from tests.helping import at_once
from tests.making import (
    COUNTS,
    drawn_plans,
    good_is_so,
    good_plans,
    lone_is_so,
    never_is_so,
    plans_of_whole_rounds,
    told_plan,
    twice_is_so,
    wrong_plans,
)


class JudgedCase(unittest.TestCase):
    def check_told(self, teams, plan):
        """Check that what is told is so, counted afresh, and return its class."""
        told = judged(teams, plan)
        if type(told) is Lone:
            so = lone_is_so(teams, plan, told.number, told.team)
            fields = [told.number, told.team]
        elif type(told) is Twice:
            so = twice_is_so(teams, plan, told.one, told.other)
            fields = [told.one, told.other]
        elif type(told) is Never:
            so = never_is_so(teams, plan, told.one, told.other)
            fields = [told.one, told.other]
        else:
            self.assertIs(type(told), Good)
            so = good_is_so(teams, plan)
            fields = []
        self.assertTrue(so, (type(told).__name__, fields))
        self.assertEqual([type(field) for field in fields], [int] * len(fields))
        self.assertIs(told.shows(teams, plan), True)
        return type(told)

    def check_fault(self, teams, plan):
        self.assertIsNot(self.check_told(teams, plan), Good)


class GoodPlanTest(JudgedCase):
    def test_the_told_plan_is_good_and_so_is_each_change_of_it(self):
        for teams in COUNTS:
            for name, plan in good_plans(teams):
                with self.subTest(teams=teams, plan=name):
                    self.assertIs(self.check_told(teams, plan), Good)

    def test_each_pair_turned_alone(self):
        for teams in (2, 4, 6, 8, 20):
            for number in range(teams - 1):
                for at in range(teams // 2):
                    with self.subTest(teams=teams, number=number, at=at):
                        plan = told_plan(teams)
                        plan[number][at] = plan[number][at][::-1]
                        self.assertIs(self.check_told(teams, plan), Good)

    def test_a_plan_written_by_hand(self):
        plan = [[(2, 0), (1, 3)], [(3, 2), (0, 1)], [(1, 2), (3, 0)]]
        self.assertIs(type(judged(4, plan)), Good)
        self.assertIs(type(judged(2, [[(0, 1)]])), Good)
        self.assertIs(type(judged(2, [[(1, 0)]])), Good)


class WrongPlanTest(JudgedCase):
    def test_plans_with_a_fault(self):
        for teams in COUNTS:
            for name, plan in wrong_plans(teams):
                with self.subTest(teams=teams, plan=name):
                    self.check_fault(teams, plan)

    def test_each_pair_gone_and_each_pair_twice(self):
        for teams in (2, 4, 6, 8, 20):
            for number, at in itertools.product(range(teams - 1), range(teams // 2)):
                with self.subTest(teams=teams, number=number, at=at):
                    plan = told_plan(teams)
                    pair = plan[number].pop(at)
                    self.check_fault(teams, plan)
                    plan[number] += [pair, pair]
                    self.check_fault(teams, plan)

    def test_each_round_gone_and_each_round_twice(self):
        for teams in COUNTS:
            for number in range(teams - 1):
                with self.subTest(teams=teams, number=number):
                    plan = told_plan(teams)
                    pairs = plan.pop(number)
                    self.assertIs(self.check_told(teams, plan), Never)
                    self.assertIs(self.check_told(teams, plan + [pairs, pairs]), Twice)

    def test_an_empty_round_ahead_between_and_behind(self):
        for teams in COUNTS:
            for number in range(teams):
                with self.subTest(teams=teams, number=number):
                    plan = told_plan(teams)
                    plan.insert(number, [])
                    self.assertIs(self.check_told(teams, plan), Lone)

    def test_no_round_at_all(self):
        for teams in COUNTS:
            self.assertIs(self.check_told(teams, []), Never)

    def test_the_only_fault_is_the_one_that_is_told(self):
        told = judged(4, [[(0, 1), (2, 3)], [(0, 2), (1, 3)]])
        self.assertIs(type(told), Never)
        self.assertIn((told.one, told.other), [(0, 3), (1, 2)])
        told = judged(4, told_plan(4) + [[(3, 0), (2, 1)]])
        self.assertIs(type(told), Twice)
        self.assertIn((told.one, told.other), [(0, 3), (1, 2)])
        told = judged(2, [[(0, 1)], []])
        self.assertEqual((type(told), told.number), (Lone, 1))
        self.assertIn(told.team, [0, 1])

    def test_each_two_meet_once_but_not_round_by_round(self):
        # All pairs are there just once: only a Lone is so.
        for teams in COUNTS[1:]:
            with self.subTest(teams=teams):
                pairs = list(itertools.combinations(range(teams), 2))
                self.assertIs(self.check_told(teams, [pairs]), Lone)
                self.assertIs(self.check_told(teams, [[pair] for pair in pairs]), Lone)


class ManyPlansTest(JudgedCase):
    def check_both_ways(self, teams, plan):
        kind = self.check_told(teams, plan)
        self.assertEqual(kind is Good, good_is_so(teams, plan))

    def test_all_plans_of_whole_rounds(self):
        for teams, rounds in ((2, 0), (2, 1), (2, 2), (2, 3), (4, 1), (4, 2), (4, 3), (4, 4), (6, 3)):
            for plan in plans_of_whole_rounds(teams, rounds):
                with self.subTest(teams=teams, plan=plan):
                    self.check_both_ways(teams, list(plan))

    def test_drawn_plans_of_whole_rounds(self):
        source = random.Random("whole rounds")
        whole = [list(pairs) for pairs, in plans_of_whole_rounds(6, 1)]
        for _ in range(1500):
            self.check_both_ways(6, source.choices(whole, k=5))

    def test_all_small_plans_of_two_teams(self):
        rounds = [list(pairs) for many in range(3) for pairs in itertools.product([(0, 1), (1, 0)], repeat=many)]
        for many in range(4):
            for plan in itertools.product(rounds, repeat=many):
                with self.subTest(plan=plan):
                    self.check_both_ways(2, list(plan))

    def test_drawn_plans(self):
        for teams in (2, 4, 6, 12, 20):
            for plan in drawn_plans(teams, 120, teams):
                with self.subTest(teams=teams, plan=plan):
                    self.check_both_ways(teams, plan)

    def test_one_pair_of_a_good_plan_drawn_anew(self):
        source = random.Random("anew")
        for _ in range(1000):
            teams = source.choice([4, 6, 8])
            plan = told_plan(teams)
            pairs = source.choice(plan)
            pairs[source.randrange(len(pairs))] = tuple(source.sample(range(teams), 2))
            self.check_both_ways(teams, plan)

    def test_any_many_rounds_and_pairs(self):
        with at_once():
            plan = told_plan(20) * 500
            self.assertIs(type(judged(20, plan)), Twice)
            self.assertIs(type(judged(20, plan + [[]])), Lone)
            self.assertIs(type(judged(20, [plan[0] * 10000])), Lone)
            self.assertIs(type(judged(2, [[]] * 10000)), Lone)
            self.assertIs(type(judged(4, [[(0, 1), (2, 3)], [(0, 2), (1, 3)]] * 5000)), Twice)


class NewTest(unittest.TestCase):
    def test_two_calls_tell_equal_answers_that_are_not_one(self):
        for teams in COUNTS:
            for name, plan in itertools.chain(good_plans(teams), wrong_plans(teams)):
                with self.subTest(teams=teams, plan=name):
                    one, other = judged(teams, plan), judged(teams, plan)
                    self.assertIs(type(one), type(other))
                    self.assertEqual(vars(one), vars(other))
                    self.assertIsNot(one, other)

    def test_an_answer_set_anew_changes_no_later_one(self):
        plan = [[(0, 1), (2, 3)]]
        for change in (None, 7):
            told = judged(4, plan)
            self.assertEqual(type(told), Never)
            self.assertTrue(never_is_so(4, plan, told.one, told.other))
            told.one = told.other = change

    def test_every_answer_is_an_answer(self):
        for plan in (told_plan(6), [], [[]], told_plan(6) * 2):
            self.assertIsInstance(judged(6, plan), Answer)

    def test_arguments_have_the_names_of_the_interface(self):
        self.assertIs(type(judged(teams=6, plan=told_plan(6))), Good)


if __name__ == "__main__":
    unittest.main()

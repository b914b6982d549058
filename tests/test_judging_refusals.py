"""Promises 1, 4 and 5: what judged and breaks refuse, and what they leave as it is."""

import copy
import gc
import inspect
import unittest
import weakref

from everymeets import judging
from everymeets.answers import Good
from everymeets.errors import BadPlan, BadTeams, NotGood
from everymeets.judging import breaks, judged
from tests.helping import HUGE, Hostile, RefusalCase, nested, no_counts, no_numbers, outside
from tests.making import COUNTS, good_plans, told_plan, wrong_plans

BOTH = [judged, breaks]


def no_judged_counts():
    """What is no count of teams of which plans are judged."""
    numbers = list(range(22, 42)) + [100, 101] + list(HUGE)
    return no_counts() + [("beyond at " + str(at), one) for at, one in enumerate(numbers)]


def no_lists():
    """Values of kinds that are no lists, each with a name to show."""
    numbers = [0, 1, 2, -1, 10 ** 40]
    values = [(name, value) for name, value in no_numbers() if not isinstance(value, list)]
    values += [("number " + str(number), number) for number in numbers]
    return values + [("tuple of lists", ([(0, 1)],)), ("tuple of tuples", ((0, 1),)), ("dict of rounds", {0: []})]


def no_pairs(teams):
    """What is no pair of two unlike teams, each with a name to show."""
    values = [(name, value) for name, value in no_numbers() if name != "tuple of two"]
    values += [
        ("number", 0),
        ("list of two", [0, 1]),
        ("text of two", "01"),
        ("bytes of two", b"\x00\x01"),
        ("set of two", {0, 1}),
        ("dict of two", {0: 1, 1: 0}),
        ("range of two", range(2)),
        ("tuple of one", (0,)),
        ("tuple of three", (0, 1, 2)),
        ("tuple of three, the last one None", (0, 1, None)),
        ("tuple of four", (0, 1, 0, 1)),
        ("pair of pairs", ((0, 1), (1, 0))),
        ("pair in a tuple", ((0, 1),)),
        ("pair in a list", [(0, 1)]),
    ]
    for name, value in outside(teams):
        values += [(name + " at home", (value, 0)), (name + " away", (1, value)), (name + " twice", (value, value))]
    values += [("team " + str(team) + " with itself", (team, team)) for team in (0, 1, teams - 1)]
    # To Python these are equal, or are numbers.
    return values + [("True with 1", (True, 1)), ("0 with False", (0, False)), ("False with True", (False, True))]


def no_plans(teams):
    """What is no list of rounds of pairs: a wrong thing alone, and in other plans."""
    for name, value in no_lists():
        yield "plan: " + name, value
        for at, plan in enumerate(([value], [[], value], [value] + told_plan(teams), told_plan(teams) + [value])):
            yield "round: " + name + ", " + str(at), plan
    yield "list within itself", nested()
    for name, value in no_pairs(teams):
        yield "pair: " + name, [[value]]
        yield "last pair of the last round: " + name, with_last_pair(teams, value)
        yield "first pair of the first round: " + name, [[value] + told_plan(teams)[0]] + told_plan(teams)[1:]
        yield "behind empty rounds: " + name, [[], [], [(0, 1), (0, 1), value]]


def with_last_pair(teams, value):
    plan = told_plan(teams)
    plan[-1][-1] = value
    return plan


class CountTest(RefusalCase):
    def test_what_is_no_count_of_teams(self):
        for function in BOTH:
            for name, value in no_judged_counts():
                with self.subTest(function=function.__name__, value=name):
                    self.refused(BadTeams, function, value, [[(0, 1)]])
                    self.refused(BadTeams, function, value, told_plan(20))

    def test_each_count_around_the_bounds(self):
        for function in BOTH:
            for teams in range(-30, 64):
                if teams not in COUNTS:
                    with self.subTest(function=function.__name__, teams=teams):
                        self.refused(BadTeams, function, teams, [])

    def test_a_right_plan_of_more_than_twenty(self):
        for function in BOTH:
            for teams in (22, 24, 40):
                with self.subTest(function=function.__name__, teams=teams):
                    self.refused(BadTeams, function, teams, told_plan(teams))

    def test_within_the_bounds_nothing_is_refused(self):
        for teams in COUNTS:
            self.assertIs(type(judged(teams, told_plan(teams))), Good)
            breaks(teams, told_plan(teams))


class PlanTest(RefusalCase):
    def test_what_is_no_plan(self):
        for function in BOTH:
            for teams in (2, 4, 20):
                for name, plan in no_plans(teams):
                    with self.subTest(function=function.__name__, teams=teams, plan=name):
                        self.refused(BadPlan, function, teams, plan)

    def test_a_plan_of_more_teams(self):
        for function in BOTH:
            for teams in COUNTS[:-1]:
                with self.subTest(function=function.__name__, teams=teams):
                    self.refused(BadPlan, function, teams, told_plan(teams + 2))

    def test_each_place_of_a_plan(self):
        for function in BOTH:
            for number in range(5):
                for at in range(3):
                    for value in ((6, 0), (0, -1), (True, 0), (2, 2), (0, 1, 2), [0, 1], None, Hostile()):
                        with self.subTest(function=function.__name__, number=number, at=at):
                            plan = told_plan(6)
                            plan[number][at] = value
                            self.refused(BadPlan, function, 6, plan)

    def test_the_last_team_is_one_and_the_next_one_is_none(self):
        for teams in COUNTS:
            judged(teams, [[(0, teams - 1)], [(teams - 1, 0)]])
            for function in BOTH:
                self.refused(BadPlan, function, teams, [[(0, teams)]])
                self.refused(BadPlan, function, teams, [[(teams, 0)]])

    def test_what_is_a_plan_is_judged_however_wrong_it_is(self):
        for teams in COUNTS:
            for name, plan in wrong_plans(teams):
                with self.subTest(teams=teams, plan=name):
                    self.assertIsNot(type(judged(teams, plan)), Good)


class NotGoodTest(RefusalCase):
    def test_breaks_of_a_plan_that_is_not_good(self):
        for teams in COUNTS:
            for name, plan in wrong_plans(teams):
                with self.subTest(teams=teams, plan=name):
                    self.refused(NotGood, breaks, teams, plan)

    def test_breaks_of_a_plan_of_fewer_teams(self):
        for teams in COUNTS[1:]:
            with self.subTest(teams=teams):
                self.refused(NotGood, breaks, teams, told_plan(teams - 2))


class OrderTest(RefusalCase):
    def test_the_count_is_told_before_the_plan(self):
        wrong = [None, True, "text", 0, (), Hostile(), nested(), [None], [[None]], [[(0, 0)]], [[(0, 99)]]]
        for function in BOTH:
            for name, count in no_judged_counts():
                for at, plan in enumerate(wrong):
                    with self.subTest(function=function.__name__, count=name, plan=at):
                        self.refused(BadTeams, function, count, plan)

    def test_the_count_is_told_before_not_good(self):
        for name, count in no_judged_counts():
            with self.subTest(count=name):
                self.refused(BadTeams, breaks, count, [])
                self.refused(BadTeams, breaks, count, [[(0, 1)], []])

    def test_no_plan_is_told_before_not_good(self):
        for value in (None, (0, 0), (0, 4), (-1, 0), (True, 2), [0, 1], Hostile()):
            for plan in ([[], [value]], [[(0, 1), (0, 1)], [value]], [[(0, 1)], [], [(2, 3), value]], [[value], []]):
                self.refused(BadPlan, breaks, 4, plan)
        self.refused(BadPlan, breaks, 4, [[], None])
        self.refused(BadPlan, breaks, 4, [[], ()])

    def test_both_wrong_at_once(self):
        for name, value in no_numbers():
            with self.subTest(value=name):
                self.refused(BadTeams, judged, value, value)
                self.refused(BadTeams, breaks, value, value)


class Plan(list):
    """A list of which can be told whether it is kept."""


class HandedInTest(unittest.TestCase):
    def ask(self, function, *given):
        """Call a function, and tell what it tells or its refusal."""
        try:
            return function(*given)
        except ValueError as told:
            return type(told)

    def test_the_plan_is_as_it_was(self):
        for teams in (2, 4, 6, 20):
            plans = list(good_plans(teams)) + list(wrong_plans(teams))
            for name, plan in plans + [("wrong pair", with_last_pair(teams, (0, teams)))]:
                with self.subTest(teams=teams, plan=name):
                    before = copy.deepcopy(plan)
                    rounds = list(plan)
                    for function in BOTH:
                        self.ask(function, teams, plan)
                    self.assertEqual(plan, before)
                    self.assertEqual([id(pairs) for pairs in plan], [id(pairs) for pairs in rounds])

    def test_no_plan_is_as_it_was(self):
        for value in ({0: [1]}, {1, 2}, [[(0, [1])]], [[[0, 1]]], [{0: 1}], ([(0, 1)],)):
            before = copy.deepcopy(value)
            for function in BOTH:
                self.ask(function, 4, value)
                self.ask(function, value, value)
            self.assertEqual(value, before)

    def test_the_plan_is_not_kept(self):
        for teams in (2, 6):
            for name, plan in list(good_plans(teams)) + list(wrong_plans(teams)):
                with self.subTest(teams=teams, plan=name):
                    handed = Plan(Plan(pairs) for pairs in plan)
                    kept = [weakref.ref(each) for each in [handed, *handed]]
                    told = [self.ask(function, teams, handed) for function in BOTH]
                    told.append(told[0].shows(teams, handed))
                    del handed
                    gc.collect()
                    self.assertEqual([each() for each in kept], [None] * len(kept))

    def test_a_plan_changed_later_changes_no_answer(self):
        plan = told_plan(6)
        told = breaks(6, plan)
        before = list(told)
        fault = judged(6, plan[:4])
        fields = dict(vars(fault))
        plan.clear()
        self.assertEqual(told, before)
        self.assertEqual(vars(fault), fields)

    def test_one_call_changes_nothing_of_the_next_one(self):
        before = breaks(6, told_plan(6))
        self.ask(judged, 6, [[(0, 1)]])
        self.ask(breaks, 6, [])
        self.ask(breaks, 8, told_plan(8))
        self.assertEqual(breaks(6, told_plan(6)), before)
        self.assertIs(type(judged(6, told_plan(6))), Good)


class InterfaceTest(unittest.TestCase):
    def test_functions_are_defined_in_their_file_with_their_arguments(self):
        for name in ("judged", "breaks"):
            with self.subTest(name=name):
                function = getattr(judging, name)
                self.assertTrue(inspect.isfunction(function))
                self.assertEqual(function.__module__, "everymeets.judging")
                self.assertEqual(list(inspect.signature(function).parameters), ["teams", "plan"])


if __name__ == "__main__":
    unittest.main()

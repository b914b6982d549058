"""Promise 4: whether an answer, also one made by hand, is so of a plan."""

import copy
import inspect
import itertools
import random
import unittest

from everymeets import answers
from everymeets.answers import Answer, Good, Lone, Never, Twice
from everymeets.judging import judged
from tests.helping import at_once
from tests.making import (
    drawn_plans,
    good_is_so,
    good_plans,
    lone_is_so,
    never_is_so,
    told_plan,
    twice_is_so,
    wrong_plans,
)

FAR = [10 ** 40, -(10 ** 40), 2 ** 63, -(2 ** 63), 2 ** 20000, -(2 ** 20000)]
OF_TWO = [(Twice, twice_is_so), (Never, never_is_so)]
PARAMETERS = {
    "Good": [],
    "Lone": ["number", "team"],
    "Twice": ["one", "other"],
    "Never": ["one", "other"],
}


def about(bound):
    """All numbers from 0 to below bound, some on either side, and some far away."""
    return list(range(-3, bound + 3)) + [-bound, -bound - 1, 2 * bound, 100] + FAR


def plans(teams):
    """Right and wrong plans."""
    yield from itertools.islice(good_plans(teams), 3)
    yield from wrong_plans(teams)
    for at, plan in enumerate(drawn_plans(teams, 12, "shows")):
        yield "drawn " + str(at), plan


def some_plans(teams):
    """Fewer of them, of each kind."""
    return list(plans(teams))[::5]


class ShowsCase(unittest.TestCase):
    def check(self, answer, teams, plan, wanted):
        # The numbers far away cannot all be shown.
        self.assertIs(answer.shows(teams, plan), wanted, type(answer).__name__)


class GoodTest(ShowsCase):
    def test_good_is_so_of_good_plans(self):
        for teams in range(2, 21, 2):
            for name, plan in good_plans(teams):
                with self.subTest(teams=teams, plan=name):
                    self.check(Good(), teams, plan, True)

    def test_good_is_not_so_of_others(self):
        for teams in range(2, 21, 2):
            for name, plan in wrong_plans(teams):
                with self.subTest(teams=teams, plan=name):
                    self.check(Good(), teams, plan, False)

    def test_good_is_so_where_none_of_the_others_is(self):
        for teams in (2, 4, 6):
            for name, plan in plans(teams):
                with self.subTest(teams=teams, plan=name):
                    two = list(itertools.combinations(range(teams), 2))
                    faults = [Lone(number, team) for number in range(len(plan)) for team in range(teams)]
                    faults += [Twice(*pair) for pair in two] + [Never(*pair) for pair in two]
                    found = True in [fault.shows(teams, plan) for fault in faults]
                    self.check(Good(), teams, plan, not found)
                    self.assertIs(good_is_so(teams, plan), not found)


class LoneTest(ShowsCase):
    def test_all_rounds_and_teams_and_some_beyond(self):
        for teams in (2, 4, 6):
            for name, plan in plans(teams):
                with self.subTest(teams=teams, plan=name):
                    for number, team in itertools.product(about(len(plan)), about(teams)):
                        wanted = lone_is_so(teams, plan, number, team)
                        self.check(Lone(number, team), teams, plan, wanted)

    def test_all_rounds_and_teams_of_twenty(self):
        for name, plan in some_plans(20):
            with self.subTest(plan=name):
                for number, team in itertools.product(range(-2, len(plan) + 2), range(-2, 22)):
                    wanted = lone_is_so(20, plan, number, team)
                    self.check(Lone(number, team), 20, plan, wanted)

    def test_rounds_behind_the_last_one_counted_from_the_end(self):
        # To Python, -1 is the place of the last one.
        plan = [[(0, 1), (2, 3)], [(0, 1)]]
        self.check(Lone(1, 3), 4, plan, True)
        self.check(Lone(-1, 3), 4, plan, False)
        self.check(Lone(1, -1), 4, plan, False)
        self.check(Lone(-1, -1), 4, plan, False)

    def test_in_none_in_one_in_several(self):
        plan = [[(0, 1), (1, 2), (2, 1)]]
        for team, wanted in ((0, False), (1, True), (2, True), (3, True), (4, False), (5, False)):
            with self.subTest(team=team):
                self.check(Lone(0, team), 4, plan, wanted)

    def test_a_round_that_is_gone_is_no_round_of_the_plan(self):
        plan = told_plan(6)[:4]
        for team in range(6):
            self.check(Lone(3, team), 6, plan, False)
            self.check(Lone(4, team), 6, plan, False)

    def test_a_round_beyond_those_of_a_good_plan(self):
        plan = told_plan(4) + [[], [(0, 1)]]
        self.check(Lone(3, 0), 4, plan, True)
        self.check(Lone(4, 0), 4, plan, False)
        self.check(Lone(4, 2), 4, plan, True)
        self.check(Lone(5, 2), 4, plan, False)

    def test_a_plan_of_no_rounds_has_no_lone_team(self):
        for number in about(1):
            self.check(Lone(number, 0), 2, [], False)


class OfTwoTest(ShowsCase):
    def test_all_two_teams_in_either_order_and_alike_and_some_beyond(self):
        for teams in (2, 4, 6):
            for name, plan in plans(teams):
                with self.subTest(teams=teams, plan=name):
                    for one, other in itertools.product(about(teams), repeat=2):
                        for kind, is_so in OF_TWO:
                            wanted = is_so(teams, plan, one, other)
                            self.check(kind(one, other), teams, plan, wanted)

    def test_all_two_of_twenty(self):
        for name, plan in some_plans(20)[:24]:
            with self.subTest(plan=name):
                for one, other in itertools.product(range(-2, 22), repeat=2):
                    for kind, is_so in OF_TWO:
                        wanted = is_so(20, plan, one, other)
                        self.check(kind(one, other), 20, plan, wanted)

    def test_the_lesser_stands_first(self):
        plan = [[(0, 1), (2, 3)], [(1, 0), (3, 2)]]
        self.check(Twice(0, 1), 4, plan, True)
        self.check(Twice(1, 0), 4, plan, False)
        self.check(Twice(2, 3), 4, plan, True)
        self.check(Twice(3, 2), 4, plan, False)
        self.check(Never(0, 2), 4, plan, True)
        self.check(Never(2, 0), 4, plan, False)

    def test_alike(self):
        for teams in (2, 4, 20):
            for plan in ([], [[]], told_plan(teams), told_plan(teams) * 2):
                for team in about(teams):
                    self.check(Twice(team, team), teams, plan, False)
                    self.check(Never(team, team), teams, plan, False)

    def test_no_teams_never_meet(self):
        for one, other in ((-1, 0), (-2, -1), (0, 4), (3, 4), (4, 5), (-1, 4), (3, 10 ** 40)):
            with self.subTest(one=one, other=other):
                self.check(Never(one, other), 4, [], False)
                self.check(Twice(one, other), 4, told_plan(4) * 2, False)

    def test_how_often_two_are_together(self):
        plan = [[(0, 1), (2, 3)]]
        for many, twice, never in ((0, False, True), (1, False, False), (2, True, False), (3, True, False)):
            with self.subTest(many=many):
                self.check(Twice(0, 1), 4, plan * many, twice)
                self.check(Never(0, 1), 4, plan * many, never)

    def test_together_in_one_round_in_two_rounds_and_turned(self):
        for plan in (
            [[(0, 1), (0, 1)]],
            [[(0, 1), (1, 0)]],
            [[(0, 1)], [(0, 1)]],
            [[(1, 0)], [], [(0, 1)]],
            [[(1, 0)], [(1, 0)]],
        ):
            with self.subTest(plan=plan):
                self.check(Twice(0, 1), 2, plan, True)
                self.check(Never(0, 1), 2, plan, False)

    def test_the_same_plan_of_more_teams(self):
        plan = told_plan(4)
        self.check(Never(0, 4), 4, plan, False)
        self.check(Never(0, 4), 6, plan, True)
        self.check(Lone(0, 5), 4, plan, False)
        self.check(Lone(0, 5), 6, plan, True)
        self.check(Good(), 4, plan, True)
        self.check(Good(), 6, plan, False)


class SetAnewTest(ShowsCase):
    def test_fields_of_lone(self):
        plan = [[(0, 1)], [(0, 1), (2, 3)]]
        answer = Lone(0, 2)
        self.check(answer, 4, plan, True)
        for number, team in itertools.product(about(2), about(4)):
            answer.number = number
            answer.team = team
            self.check(answer, 4, plan, lone_is_so(4, plan, number, team))

    def test_fields_of_twice_and_never(self):
        plan = [[(0, 1), (2, 3)], [(1, 0)]]
        for kind, is_so in OF_TWO:
            answer = kind(0, 1)
            for one, other in itertools.product(about(4), repeat=2):
                answer.one = one
                answer.other = other
                self.check(answer, 4, plan, is_so(4, plan, one, other))

    def test_one_field_alone(self):
        plan = [[(0, 1)], [(0, 1), (2, 3)]]
        answer = Lone(0, 2)
        answer.number = 1
        self.check(answer, 4, plan, False)
        answer.number = 0
        self.check(answer, 4, plan, True)
        answer.team = 1
        self.check(answer, 4, plan, False)

    def test_fields_of_a_told_answer(self):
        plan = [[(0, 1)], [(0, 1), (2, 3)]]
        answer = judged(4, plan)
        self.assertIs(type(answer), Lone)
        self.check(answer, 4, plan, True)
        answer.number = 1
        self.check(answer, 4, plan, False)
        answer.number, answer.team = 0, 3
        self.check(answer, 4, plan, True)

    def test_a_plan_changed_between(self):
        plan = told_plan(6)
        good, lone, never, twice = Good(), Lone(2, plan[2][0][0]), Never(*sorted(plan[2][0])), Twice(0, 1)
        self.assertEqual([one.shows(6, plan) for one in (good, lone, never, twice)], [True, False, False, False])
        pair = plan[2].pop(0)
        self.assertEqual([one.shows(6, plan) for one in (good, lone, never, twice)], [False, True, True, False])
        plan[2].append(pair)
        plan.append([(1, 0)])
        self.assertEqual([one.shows(6, plan) for one in (good, lone, never, twice)], [False, False, False, True])


class HandedInTest(unittest.TestCase):
    def all_answers(self):
        for one, other in itertools.product((-1, 0, 1, 2, 3, 4, 10 ** 40), repeat=2):
            for kind in (Lone, Twice, Never):
                yield kind(one, other)
        yield Good()

    def test_neither_the_plan_nor_the_fields_are_changed(self):
        for name, plan in plans(4):
            with self.subTest(plan=name):
                before = copy.deepcopy(plan)
                for answer in self.all_answers():
                    fields = dict(vars(answer))
                    told = answer.shows(4, plan)
                    self.assertEqual(vars(answer), fields)
                    self.assertIs(answer.shows(4, plan), told)
                self.assertEqual(plan, before)

    def test_any_many_rounds_and_pairs(self):
        plan = told_plan(20) * 500
        with at_once():
            for answer in (Good(), Lone(9499, 19), Never(0, 19)):
                self.assertFalse(answer.shows(20, plan))
            self.assertTrue(Twice(0, 19).shows(20, plan))

    def test_drawn_answers_of_drawn_plans(self):
        source = random.Random("drawn answers")
        for plan in drawn_plans(8, 300, "drawn answers"):
            for _ in range(10):
                first, second = source.randint(-2, 17), source.randint(-2, 9)
                wanted = [
                    lone_is_so(8, plan, first, second),
                    twice_is_so(8, plan, first, second),
                    never_is_so(8, plan, first, second),
                ]
                asked = [kind(first, second).shows(8, plan) for kind in (Lone, Twice, Never)]
                self.assertEqual(asked, wanted, (plan, first, second))


class InterfaceTest(unittest.TestCase):
    def test_the_answers_stand_straight_under_answer(self):
        self.assertEqual(Answer.__bases__, (object,))
        for name in PARAMETERS:
            with self.subTest(name=name):
                self.assertEqual(getattr(answers, name).__bases__, (Answer,))

    def test_classes_are_defined_in_their_file_under_their_names(self):
        for name in ["Answer"] + list(PARAMETERS):
            with self.subTest(name=name):
                kind = getattr(answers, name)
                self.assertEqual(kind.__name__, name)
                self.assertEqual(kind.__module__, "everymeets.answers")

    def test_each_class_has_shows_of_its_own(self):
        for name in PARAMETERS:
            with self.subTest(name=name):
                shows = vars(getattr(answers, name))["shows"]
                self.assertTrue(inspect.isfunction(shows))
                self.assertEqual(list(inspect.signature(shows).parameters)[1:], ["teams", "plan"])

    def test_fields_by_place_and_by_name(self):
        for name, fields in PARAMETERS.items():
            with self.subTest(name=name):
                kind = getattr(answers, name)
                numbers = list(range(7, 7 + len(fields)))
                wanted = dict(zip(fields, numbers))
                self.assertEqual(vars(kind(*numbers)), wanted)
                self.assertEqual(vars(kind(**wanted)), wanted)

    def test_arguments_of_shows_have_the_names_of_the_interface(self):
        for answer in (Good(), Lone(0, 0), Twice(0, 1), Never(0, 1)):
            self.assertEqual(answer.shows(teams=4, plan=told_plan(4)), type(answer) is Good)


if __name__ == "__main__":
    unittest.main()

"""Promise 1 and the interface of everymeets.plans: what is refused, and how."""

import ast
import copy
import gc
import inspect
import pathlib
import unittest
import weakref

import everymeets
from everymeets import plans
from everymeets.errors import Alike, BadRound, BadTeam, BadTeams
from everymeets.plans import at_home, break_of, opponent, round_of
from tests.helping import FORTY_FIGURES, HUGE, RefusalCase, at_once, no_counts, no_numbers, outside

PARAMETERS = {
    "opponent": ["teams", "team", "number"],
    "at_home": ["teams", "team", "number"],
    "round_of": ["teams", "one", "other"],
    "break_of": ["teams", "team"],
}
# Each with what stands well behind the count of teams.
CALLS = [(opponent, (0, 0)), (at_home, (0, 0)), (round_of, (0, 1)), (break_of, (0,))]
OF_ROUNDS = [opponent, at_home]


class CountTest(RefusalCase):
    def test_what_is_no_count_of_teams(self):
        for function, rest in CALLS:
            for name, value in no_counts():
                with self.subTest(function=function.__name__, value=name):
                    self.refused(BadTeams, function, value, *rest)

    def test_the_least_count_is_two(self):
        for function, rest in CALLS:
            with self.subTest(function=function.__name__):
                self.refused(BadTeams, function, 0, *rest)
                self.refused(BadTeams, function, 1, *rest)
                function(2, *rest)

    def test_all_odd_counts_and_no_even_ones(self):
        for function, rest in CALLS:
            for teams in range(-41, 60):
                with self.subTest(function=function.__name__, teams=teams):
                    if teams % 2 == 0 and teams >= 2:
                        function(teams, *rest)
                    else:
                        self.refused(BadTeams, function, teams, *rest)

    def test_counts_of_any_size(self):
        for function, rest in CALLS:
            for at, teams in enumerate(HUGE):
                with self.subTest(function=function.__name__, at=at), at_once():
                    function(teams, *rest)
                    self.refused(BadTeams, function, teams + 1, *rest)
                    self.refused(BadTeams, function, teams - 1, *rest)
                    self.refused(BadTeams, function, -teams, *rest)


class TeamTest(RefusalCase):
    def test_what_is_none_of_the_teams(self):
        for teams in (2, 4, 6, 20) + FORTY_FIGURES:
            for name, value in outside(teams):
                with self.subTest(teams=teams, value=name):
                    self.refused(BadTeam, opponent, teams, value, 0)
                    self.refused(BadTeam, at_home, teams, value, 0)
                    self.refused(BadTeam, break_of, teams, value)
                    for other in (0, 1, teams - 1):
                        self.refused(BadTeam, round_of, teams, value, other)
                        self.refused(BadTeam, round_of, teams, other, value)

    def test_just_within_the_bounds(self):
        for at, teams in enumerate((2, 4, 6, 20) + HUGE):
            with self.subTest(at=at), at_once():
                for team in (0, teams - 1):
                    opponent(teams, team, 0)
                    at_home(teams, team, 0)
                    break_of(teams, team)
                    round_of(teams, team, teams - 1 - team)

    def test_just_beyond_the_bounds(self):
        for at, teams in enumerate((2, 4, 6, 20) + HUGE):
            for team in (-1, teams):
                with self.subTest(at=at):
                    self.refused(BadTeam, opponent, teams, team, 0)
                    self.refused(BadTeam, at_home, teams, team, 0)
                    self.refused(BadTeam, break_of, teams, team)
                    self.refused(BadTeam, round_of, teams, team, 0)
                    self.refused(BadTeam, round_of, teams, 0, team)


class RoundTest(RefusalCase):
    def test_what_is_no_round(self):
        for function in OF_ROUNDS:
            for teams in (2, 4, 6, 20) + FORTY_FIGURES:
                for name, value in outside(teams - 1):
                    with self.subTest(function=function.__name__, teams=teams, value=name):
                        for team in (0, 1, teams - 1):
                            self.refused(BadRound, function, teams, team, value)

    def test_just_within_and_just_beyond_the_bounds(self):
        for function in OF_ROUNDS:
            for at, teams in enumerate((2, 4, 6, 20) + HUGE):
                with self.subTest(function=function.__name__, at=at):
                    function(teams, 0, 0)
                    function(teams, teams - 1, teams - 2)
                    for team in (0, 1, teams - 1):
                        self.refused(BadRound, function, teams, team, -1)
                        self.refused(BadRound, function, teams, team, teams - 1)


class AlikeTest(RefusalCase):
    def test_one_team_twice(self):
        for teams in (2, 4, 6, 20):
            for team in range(teams):
                with self.subTest(teams=teams, team=team):
                    self.refused(Alike, round_of, teams, team, team)

    def test_one_team_twice_of_very_many(self):
        for at, teams in enumerate(HUGE):
            for behind, team in enumerate((0, 1, teams // 2, teams - 2, teams - 1)):
                with self.subTest(at=at, behind=behind):
                    # Two equal numbers that are not one object.
                    self.refused(Alike, round_of, teams, team, team + 1 - 1)


class OrderTest(RefusalCase):
    def test_the_count_is_told_before_the_team(self):
        for name, count in no_counts():
            for other_name, team in outside(6):
                with self.subTest(count=name, team=other_name):
                    self.refused(BadTeams, opponent, count, team, 0)
                    self.refused(BadTeams, at_home, count, team, 0)
                    self.refused(BadTeams, break_of, count, team)
                    self.refused(BadTeams, round_of, count, team, 0)
                    self.refused(BadTeams, round_of, count, 0, team)

    def test_the_count_is_told_before_the_round(self):
        for function in OF_ROUNDS:
            for name, count in no_counts():
                for other_name, number in outside(5):
                    with self.subTest(function=function.__name__, count=name, number=other_name):
                        self.refused(BadTeams, function, count, 0, number)

    def test_the_count_is_told_before_one_team_twice(self):
        for name, count in no_counts():
            with self.subTest(count=name):
                self.refused(BadTeams, round_of, count, 0, 0)
                self.refused(BadTeams, round_of, count, 1, 1)

    def test_the_team_is_told_before_the_round(self):
        for function in OF_ROUNDS:
            for name, team in outside(6):
                for other_name, number in outside(5):
                    with self.subTest(function=function.__name__, team=name, number=other_name):
                        self.refused(BadTeam, function, 6, team, number)

    def test_what_is_no_team_is_told_before_one_team_twice(self):
        for name, team in outside(6):
            with self.subTest(team=name):
                self.refused(BadTeam, round_of, 6, team, team)
        # To Python these are equal.
        for one, other in ((True, 1), (1, True), (False, 0), (0, False)):
            with self.subTest(one=one, other=other):
                self.refused(BadTeam, round_of, 6, one, other)

    def test_all_wrong_at_once(self):
        for name, value in no_numbers():
            with self.subTest(value=name):
                self.refused(BadTeams, opponent, value, value, value)
                self.refused(BadTeams, at_home, value, value, value)
                self.refused(BadTeams, round_of, value, value, value)
                self.refused(BadTeams, break_of, value, value)


class HandedInTest(RefusalCase):
    def ask_all(self, value):
        for function, rest in CALLS:
            self.refused(BadTeams, function, value, *rest)
            self.refused(BadTeam, function, 6, value, *rest[1:])
        for function in OF_ROUNDS:
            self.refused(BadRound, function, 6, 0, value)
        self.refused(BadTeam, round_of, 6, 0, value)

    def test_nothing_handed_in_is_changed(self):
        for value in ([2, [3]], {2: [3]}, {2, 3}, [(0, 1)], []):
            with self.subTest(value=value):
                before = copy.deepcopy(value)
                self.ask_all(value)
                self.assertEqual(value, before)

    def test_nothing_handed_in_is_kept(self):
        class Thing:
            pass

        thing = Thing()
        kept = weakref.ref(thing)
        self.ask_all(thing)
        del thing
        gc.collect()
        self.assertIsNone(kept())


class InterfaceTest(unittest.TestCase):
    def test_functions_are_defined_in_their_file(self):
        for name in PARAMETERS:
            with self.subTest(name=name):
                function = getattr(plans, name)
                self.assertTrue(inspect.isfunction(function))
                self.assertEqual(function.__module__, "everymeets.plans")

    def test_functions_have_their_arguments(self):
        for name, wanted in PARAMETERS.items():
            with self.subTest(name=name):
                self.assertEqual(list(inspect.signature(getattr(plans, name)).parameters), wanted)

    def test_no_clock_chance_or_file_is_used(self):
        allowed = {"heapq", "math", "itertools", "collections", "__future__", "everymeets"}
        for folder in everymeets.__path__:
            for path in sorted(pathlib.Path(folder).rglob("*.py")):
                with self.subTest(path=path.name):
                    tree = ast.parse(path.read_text(encoding="utf-8"))
                    self.assertLessEqual(set(imported(tree)), allowed)
                    self.assertFalse({"open", "input", "__import__"} & set(names(tree)))


def imported(tree):
    """The first words of the modules from which a file imports."""
    for node in ast.walk(tree):
        if isinstance(node, ast.Import):
            for alias in node.names:
                yield alias.name.split(".")[0]
        if isinstance(node, ast.ImportFrom):
            yield (node.module or "everymeets").split(".")[0]


def names(tree):
    """The names that a file reads."""
    return [node.id for node in ast.walk(tree) if isinstance(node, ast.Name)]


if __name__ == "__main__":
    unittest.main()

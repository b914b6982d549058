"""Plans judged: what is told of any plan, and the breaks of a good one."""

from everymeets.answers import Good, Lone, Never, Twice
from everymeets.checks import check_judged_teams, check_plan
from everymeets.counts import pairs_of_each, pairs_of_two
from everymeets.errors import NotGood


def judged(teams, plan):
    """Tell what is so of a plan: a fault, or that it is good."""
    check_judged_teams(teams)
    check_plan(teams, plan)
    fault = _lone_team(teams, plan)
    if fault is None:
        fault = _wrong_two(teams, plan)
    if fault is None:
        return Good()
    return fault


def breaks(teams, plan):
    """Tell all breaks of a good plan: pairs of a round and a team, in order."""
    if not isinstance(judged(teams, plan), Good):
        raise NotGood("breaks are told of a good plan only")
    home = [_home_of_each(teams, pairs) for pairs in plan]
    found = []
    for number in range(1, len(plan)):
        for team in range(teams):
            if home[number][team] == home[number - 1][team]:
                found.append((number, team))
    return found


def _lone_team(teams, plan):
    for number, pairs in enumerate(plan):
        counts = pairs_of_each(teams, pairs)
        for team, many in enumerate(counts):
            if many != 1:
                return Lone(number, team)
    return None


def _wrong_two(teams, plan):
    counts = pairs_of_two(teams, plan)
    for (one, other), many in counts.items():
        if many > 1:
            return Twice(one, other)
        if many == 0:
            return Never(one, other)
    return None


def _home_of_each(teams, pairs):
    home = [False] * teams
    for team, _ in pairs:
        home[team] = True
    return home

"""What is asked of all that is handed in.

The messages name no value: some values cannot be shown, such as numbers of
thousands of figures, and showing them would fail in another way.
"""

from everymeets.errors import BadPlan, BadRound, BadTeam, BadTeams

MOST_JUDGED = 20


def is_number(value):
    """Tell whether it is a whole number."""
    # To Python, but not here, True and False are integers.
    return isinstance(value, int) and not isinstance(value, bool)


def is_counted(many, value):
    """Tell whether it is one of so many things that are counted from 0."""
    return is_number(value) and 0 <= value < many


def check_teams(teams):
    """Refuse what is no count of teams."""
    if not is_number(teams) or teams < 2 or teams % 2 != 0:
        raise BadTeams("a count of teams is an even whole number from 2 on")


def check_judged_teams(teams):
    """Refuse what is no count of teams of which plans are judged."""
    check_teams(teams)
    if teams > MOST_JUDGED:
        raise BadTeams("plans are judged of at most 20 teams")


def check_team(teams, team):
    """Refuse what is none of so many teams."""
    if not is_counted(teams, team):
        raise BadTeam("a team is a whole number from 0 to one below the count of teams")


def check_round(teams, number):
    """Refuse what is no round of so many teams."""
    if not is_counted(teams - 1, number):
        raise BadRound("a round is a whole number from 0 to two below the count of teams")


def check_plan(teams, plan):
    """Refuse what is no list of rounds of pairs of so many teams."""
    if not isinstance(plan, list):
        raise BadPlan("a plan is a list of rounds")
    for pairs in plan:
        if not isinstance(pairs, list):
            raise BadPlan("a round is a list of pairs")
        for pair in pairs:
            if not _is_pair(teams, pair):
                raise BadPlan("a pair is a tuple of two unlike teams")


def _is_pair(teams, pair):
    if not isinstance(pair, tuple) or len(pair) != 2:
        return False
    home, away = pair
    return is_counted(teams, home) and is_counted(teams, away) and home != away

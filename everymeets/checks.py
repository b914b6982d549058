"""What is asked of each number that is handed in.

The messages name no value: some values cannot be shown, such as numbers of
thousands of figures, and showing them would fail in another way.
"""

from everymeets.errors import BadRound, BadTeam, BadTeams


def is_number(value):
    """Tell whether it is a whole number."""
    # To Python, but not here, True and False are integers.
    return isinstance(value, int) and not isinstance(value, bool)


def check_teams(teams):
    """Refuse what is no count of teams."""
    if not is_number(teams) or teams < 2 or teams % 2 != 0:
        raise BadTeams("a count of teams is an even whole number from 2 on")


def check_team(teams, team):
    """Refuse what is none of so many teams."""
    if not is_number(team) or team < 0 or team >= teams:
        raise BadTeam("a team is a whole number from 0 to one below the count of teams")


def check_round(teams, number):
    """Refuse what is no round of so many teams."""
    if not is_number(number) or number < 0 or number >= teams - 1:
        raise BadRound("a round is a whole number from 0 to two below the count of teams")

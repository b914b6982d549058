"""The told plan: one for each count of teams, each answer by a short reckoning.

All teams but the last one stand on a circle of teams - 1 places. In round
number, the team at that place meets the last team, and any two others meet
that stand as many places before it as behind it: the sum of the two is twice
the number, but for whole turns around the circle. As the circle has an odd
count of places, each sum is twice just one number, so each two teams meet in
just one round.

A team on the circle is at home if it stands an odd count of places behind the
place of the round, counted once around. For two that meet, these counts add
up to the odd count of places, so just one of them is odd. From round to round
a team's count falls by one, so home and away take turns, but for one spot:
after 1, home, comes 0, the meeting with the last team, and then the greatest
count, which is even, away. So each team on the circle breaks either in that
meeting or in the round after it. The last team is at home in even rounds and
never breaks; the one beside it meets it in the last round, away, after a
round at home, and never breaks either.
"""

from everymeets.checks import check_round, check_team, check_teams
from everymeets.errors import Alike


def opponent(teams, team, number):
    """Tell the team that a team meets in a round."""
    _check_team_in_round(teams, team, number)
    last = teams - 1
    if team == last:
        return number
    if team == number:
        return last
    return (2 * number - team) % last


def at_home(teams, team, number):
    """Tell whether a team is at home in a round."""
    _check_team_in_round(teams, team, number)
    last = teams - 1
    if team == last:
        return number % 2 == 0
    if team == number:
        return number % 2 == 1
    return (team - number) % last % 2 == 1


def round_of(teams, one, other):
    """Tell the round in which two teams meet."""
    check_teams(teams)
    check_team(teams, one)
    check_team(teams, other)
    if one == other:
        raise Alike("a team does not meet itself")
    last = teams - 1
    if one == last:
        return other
    if other == last:
        return one
    # Around an odd circle, times half of teams undoes times two.
    return (one + other) * (teams // 2) % last


def break_of(teams, team):
    """Tell the round in which a team breaks, None for never."""
    check_teams(teams)
    check_team(teams, team)
    if team >= teams - 2:
        return None
    # The team meets the last one in the round of its own number: at home, after
    # a round at home, if that is odd; else away, before a round away.
    if team % 2 == 1:
        return team
    return team + 1


def _check_team_in_round(teams, team, number):
    check_teams(teams)
    check_team(teams, team)
    check_round(teams, number)

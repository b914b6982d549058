"""What can be told of a plan, each answer asked whether it is so.

An answer is asked by its fields as they stand then: they may have been set
anew, to numbers that are no round and no teams. Of such it is not so.
"""

from everymeets.checks import is_counted
from everymeets.counts import pairs_of_each, pairs_of_two


class Answer:
    """What every answer stands under."""


class Good(Answer):
    """In each round each team is in just one pair, and each two teams meet in just one round."""

    def shows(self, teams, plan):
        """Tell whether this is so of a plan."""
        for pairs in plan:
            if not _all_one(pairs_of_each(teams, pairs)):
                return False
        # Two teams that are twice in one round failed above, so pairs are rounds here.
        counts = pairs_of_two(teams, plan)
        return _all_one(list(counts.values()))


class Lone(Answer):
    """A round, and a team that is in none of its pairs, or in several."""

    def __init__(self, number, team):
        self.number = number
        self.team = team

    def shows(self, teams, plan):
        """Tell whether this is so of a plan."""
        if not is_counted(len(plan), self.number) or not is_counted(teams, self.team):
            return False
        counts = pairs_of_each(teams, plan[self.number])
        return counts[self.team] != 1


class Twice(Answer):
    """Two teams, the lesser count first, that are together in two or more of all pairs."""

    def __init__(self, one, other):
        self.one = one
        self.other = other

    def shows(self, teams, plan):
        """Tell whether this is so of a plan."""
        if not _are_two(teams, self.one, self.other):
            return False
        counts = pairs_of_two(teams, plan)
        return counts[self.one, self.other] > 1


class Never(Answer):
    """Two teams, the lesser count first, that are together in none of all pairs."""

    def __init__(self, one, other):
        self.one = one
        self.other = other

    def shows(self, teams, plan):
        """Tell whether this is so of a plan."""
        if not _are_two(teams, self.one, self.other):
            return False
        counts = pairs_of_two(teams, plan)
        return counts[self.one, self.other] == 0


def _all_one(counts):
    return all([many == 1 for many in counts])


def _are_two(teams, one, other):
    return is_counted(teams, one) and is_counted(teams, other) and one < other

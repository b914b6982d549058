"""The refusals, one class for each kind."""


class MeetError(ValueError):
    """What every refusal of the program stands under."""


class BadTeams(MeetError):
    """What was handed in is no count of teams."""


class BadTeam(MeetError):
    """What was handed in is none of the teams."""


class BadRound(MeetError):
    """What was handed in is no round."""


class BadPlan(MeetError):
    """What was handed in is no list of rounds of pairs."""


class Alike(MeetError):
    """The two teams are one."""


class NotGood(MeetError):
    """The plan is not one of which Good is told."""

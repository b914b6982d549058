"""What is counted in a plan, by which it is judged."""


def pairs_of_each(teams, pairs):
    """Tell of each team, in order, in how many of a round's pairs it is."""
    counts = [0] * teams
    for home, away in pairs:
        counts[home] += 1
        counts[away] += 1
    return counts


def pairs_of_two(teams, plan):
    """Tell of each two teams, the lesser count first, in how many of all pairs they are together."""
    counts = {(one, other): 0 for one in range(teams) for other in range(one + 1, teams)}
    for pairs in plan:
        for home, away in pairs:
            counts[min(home, away), max(home, away)] += 1
    return counts

"""Plans to be judged, right and wrong ones, and what is so of them, counted afresh."""

import copy
import itertools
import random

from everymeets.plans import at_home, opponent

COUNTS = list(range(2, 21, 2))


def told_plan(teams):
    """The told plan as a list of rounds."""
    return [
        [
            (team, opponent(teams, team, number))
            for team in range(teams)
            if at_home(teams, team, number)
        ]
        for number in range(teams - 1)
    ]


def rounds_exchanged(plan, source):
    plan = copy.deepcopy(plan)
    source.shuffle(plan)
    return plan


def pairs_exchanged(plan, source):
    plan = copy.deepcopy(plan)
    for pairs in plan:
        source.shuffle(pairs)
    return plan


def pairs_turned(plan, source):
    return [[source.choice([(one, other), (other, one)]) for one, other in pairs] for pairs in plan]


def teams_renamed(plan, source):
    names = list(range(len(plan) + 1))
    source.shuffle(names)
    return [[(names[one], names[other]) for one, other in pairs] for pairs in plan]


CHANGES = [rounds_exchanged, pairs_exchanged, pairs_turned, teams_renamed]


def good_plans(teams):
    """The told plan, that plan changed in each way, and in all ways, some times over."""
    plan = told_plan(teams)
    yield "told", plan
    for change in CHANGES:
        yield change.__name__, change(plan, random.Random(teams))
    for seed in range(8):
        source = random.Random(100 * teams + seed)
        changed = plan
        for change in CHANGES:
            changed = change(changed, source)
        yield "all changes " + str(seed), changed
    yield "all pairs turned", [[(away, home) for home, away in pairs] for pairs in plan]
    yield "lesser at home", [[(min(pair), max(pair)) for pair in pairs] for pairs in plan]


def one_pair_changed(plan, number, at):
    """Plans in which one pair of a good plan is gone, or there twice."""
    pair = plan[number][at]
    for name, instead in (("gone", []), ("twice", [pair, pair]), ("twice, once turned", [pair, pair[::-1]])):
        changed = copy.deepcopy(plan)
        changed[number][at:at + 1] = instead
        yield "pair " + name, changed


def another_pair(teams, plan, number, at, source):
    """Plans in which another pair stands in the place of one of a good plan."""
    others = list(itertools.permutations(range(teams), 2))
    for pair in source.sample(others, min(6, len(others))):
        # The same two, also turned, would be no fault.
        if sorted(pair) != sorted(plan[number][at]):
            changed = copy.deepcopy(plan)
            changed[number][at] = pair
            yield "another pair", changed


def one_round_changed(plan, number):
    """Plans in which one round of a good plan is gone, there twice, empty, or another one."""
    last = len(plan) - 1
    instead = [
        ("gone", []),
        ("twice", [plan[number], plan[number]]),
        ("empty", [[]]),
        ("beside an empty one", [plan[number], []]),
        ("joined by one of its pairs", [plan[number], plan[number][:1]]),
    ]
    if last > 0:
        instead.append(("in place of another", [plan[last - number if 2 * number != last else 0]]))
    if len(plan[number]) > 1:
        instead.append(("in two parts", [plan[number][:1], plan[number][1:]]))
    for name, rounds in instead:
        if rounds != [plan[number]]:
            changed = copy.deepcopy(plan)
            changed[number:number + 1] = copy.deepcopy(rounds)
            yield "round " + name, changed


def other_plans(teams, plan):
    """Wrong plans that are far from a good one."""
    yield "no round", []
    yield "one empty round", [[]]
    yield "as many empty rounds", [[] for _ in plan]
    if teams > 2:
        yield "all pairs in one round", [[pair for pairs in plan for pair in pairs]]
        yield "each pair a round", [[pair] for pairs in plan for pair in pairs]
        yield "one round over and over", [list(plan[0]) for _ in plan]
        yield "two rounds in one", [plan[0] + plan[1]] + copy.deepcopy(plan[2:])
    yield "there and back", copy.deepcopy(plan) + [[pair[::-1] for pair in pairs] for pairs in plan]
    yield "there and back in a round", [pairs + [pair[::-1] for pair in pairs] for pairs in plan]


def crossed_plans(plan, source):
    """Plans with each team in just one pair of each round, but two teams together twice."""
    for _ in range(6):
        changed = copy.deepcopy(plan)
        pairs = source.choice(changed)
        at, behind = source.sample(range(len(pairs)), 2)
        (one, other), (third, fourth) = pairs[at], pairs[behind]
        pairs[at], pairs[behind] = (one, fourth), (third, other)
        yield "two pairs crossed", changed


def wrong_plans(teams):
    """Plans that are not good, most of them with one fault."""
    plan = told_plan(teams)
    source = random.Random(teams)
    for number in {0, len(plan) // 2, len(plan) - 1}:
        yield from one_round_changed(plan, number)
        for at in {0, len(plan[number]) - 1}:
            yield from one_pair_changed(plan, number, at)
            yield from another_pair(teams, plan, number, at, source)
    yield from other_plans(teams, plan)
    if teams > 2:
        yield from crossed_plans(plan, source)


def drawn_plans(teams, many, seed):
    """Plans of drawn pairs, most of them wrong."""
    source = random.Random(seed)
    pairs = list(itertools.permutations(range(teams), 2))
    for _ in range(many):
        rounds = source.choice([0, 1, teams - 2, teams - 1, teams - 1, teams, 2 * teams])
        most = source.choice([1, teams // 2, teams // 2, teams])
        yield [source.choices(pairs, k=source.randint(0, most)) for _ in range(rounds)]


def plans_of_whole_rounds(teams, rounds):
    """All plans of so many rounds in each of which each team is in just one pair."""
    return itertools.product(list(whole_rounds(list(range(teams)))), repeat=rounds)


def whole_rounds(free):
    """All rounds in which each of the free teams is in just one pair, the lesser at home."""
    if not free:
        yield []
        return
    one, rest = free[0], free[1:]
    for other in rest:
        for pairs in whole_rounds([team for team in rest if team != other]):
            yield [(one, other)] + pairs


def times_in(plan, number, team):
    """In how many pairs of a round a team is."""
    return [team in pair for pair in plan[number]].count(True)


def times_together(plan, one, other):
    """In how many of all pairs two teams are together."""
    every = [pair for pairs in plan for pair in pairs]
    return every.count((one, other)) + every.count((other, one))


def lone_is_so(teams, plan, number, team):
    if number not in range(len(plan)) or team not in range(teams):
        return False
    return times_in(plan, number, team) != 1


def are_two(teams, one, other):
    return one in range(teams) and other in range(teams) and one < other


def twice_is_so(teams, plan, one, other):
    return are_two(teams, one, other) and times_together(plan, one, other) >= 2


def never_is_so(teams, plan, one, other):
    return are_two(teams, one, other) and times_together(plan, one, other) == 0


def good_is_so(teams, plan):
    """Whether a plan is good, by the words of the document."""
    for number in range(len(plan)):
        for team in range(teams):
            if times_in(plan, number, team) != 1:
                return False
    rounds = [[{*pair} for pair in pairs] for pairs in plan]
    return all(
        [{one, other} in pairs for pairs in rounds].count(True) == 1
        for one, other in itertools.combinations(range(teams), 2)
    )

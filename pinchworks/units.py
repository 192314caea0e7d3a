"""The fewest exchangers: tables with the fewest entries, balanced groups, the fewest matches."""

from itertools import combinations

from pinchworks.bodies import bodies_of, levels_of
from pinchworks.cascades import least_outside
from pinchworks.checks import check_problem, is_row, is_within
from pinchworks.errors import BadLoads, TooMany, Unbalanced
from pinchworks.places import pass_on, spots_of

MOST_LOADS = 5
MOST_LOAD = 10000
MOST_PAIRS = 9
OUTSIDE = -1


def fewest_units(givers, takers):
    """Return the least number of positive entries of a table with these sums of rows and columns."""
    check_balance(givers, takers)
    return len(givers) + len(takers) - len(groups_of(givers, takers))


def unit_table(givers, takers):
    """Return a table with the fewest positive entries."""
    check_balance(givers, takers)
    given, wanted = list(givers), list(takers)
    rows = [[0 for _ in takers] for _ in givers]
    for some_givers, some_takers in groups_of(givers, takers):
        for giver in some_givers:
            for taker in some_takers:
                heat = min(given[giver], wanted[taker])
                rows[giver][taker] = heat
                given[giver] -= heat
                wanted[taker] -= heat
    return tuple([tuple(row) for row in rows])


def balanced_groups(givers, takers):
    """Return as many pairs (givers, takers) of indexes with equal sums as possible."""
    check_balance(givers, takers)
    return tuple(sorted(groups_of(givers, takers)))


def shows_groups(givers, takers, value):
    check_balance(givers, takers)
    many = len(groups_of(givers, takers))
    if not is_row(value, many, many):
        return False
    if not all([is_balanced(group, givers, takers) for group in value]):
        return False
    for side, loads in enumerate((givers, takers)):
        if sorted([index for group in value for index in group[side]]) != list(range(len(loads))):
            return False
    return all([group < later for group, later in zip(value, value[1:])])


def fewest_matches(problem):
    return len(match_set(problem))


def match_set(problem):
    """Return the smallest tuple of as few pairs (giver, taker) as the least heating and cooling allow."""
    check_problem(problem)
    given, taken = outside_spots(problem)
    givers = sorted(set([spot[0] for spot in given]))
    takers = sorted(set([spot[0] for spot in taken]))
    pairs = [(giver, taker) for giver in givers for taker in takers]
    if len(pairs) > MOST_PAIRS:
        raise TooMany(MOST_PAIRS)
    for many in range(1, len(pairs)):
        for chosen in combinations(pairs, many):
            if joins_all(chosen, givers, takers) and suffices(chosen, pairs, given, taken):
                return chosen
    return tuple(pairs)


def check_loads(loads):
    if not is_row(loads, 1, MOST_LOADS) or not all([is_within(load, 1, MOST_LOAD) for load in loads]):
        raise BadLoads(f"loads are a tuple of 1 to {MOST_LOADS} integers from 1 to {MOST_LOAD}")


def check_balance(givers, takers):
    check_loads(givers)
    check_loads(takers)
    if sum(givers) != sum(takers):
        raise Unbalanced("givers and takers have unlike sums")


def groups_of(givers, takers):
    """Return a list of as many groups (givers, takers) with equal sums as possible.

    Sets of givers and takers are written as bits of integers, givers first.
    """
    loads = list(givers) + [-load for load in takers]
    balanced = [bits for bits in range(1, 1 << len(loads)) if sum(members(bits, loads)) == 0]
    best = {0: []}
    for bits in balanced:
        # Every split has a group with the first member, so it is enough to try those.
        first = bits & -bits
        choices = [best[bits - group] + [group] for group in balanced if group & first and group | bits == bits]
        best[bits] = max(choices, key=len)
    numbers = list(range(len(givers))) + list(range(len(takers)))
    giver_bits = (1 << len(givers)) - 1
    groups = []
    for bits in best[balanced[-1]]:
        some_givers = members(bits & giver_bits, numbers)
        some_takers = members(bits - (bits & giver_bits), numbers)
        groups.append((tuple(some_givers), tuple(some_takers)))
    return groups


def members(bits, things):
    return [thing for at, thing in enumerate(things) if (bits >> at) & 1]


def is_balanced(group, givers, takers):
    """Return whether a value is a pair of ascending tuples of indexes with equal sums of loads."""
    if not is_row(group, 2, 2):
        return False
    sums = []
    for some, loads in zip(group, (givers, takers)):
        if not is_row(some, 1, len(loads)) or not all([is_within(at, 0, len(loads) - 1) for at in some]):
            return False
        if any([at >= later for at, later in zip(some, some[1:])]):
            return False
        sums.append(sum([loads[at] for at in some]))
    return sums[0] == sums[1]


def outside_spots(problem):
    """Return the spots of givers and takers, the least heating and the cooling with it among them."""
    bodies = bodies_of(problem)
    descending = levels_of(bodies)
    given, taken = spots_of(bodies, descending)
    heating, cooling = least_outside(problem)
    if heating > 0:
        given.append((OUTSIDE, 0, heating))
    if cooling > 0:
        taken.append((OUTSIDE, 2 * len(descending) - 2, cooling))
    return (given, taken)


def joins_all(chosen, givers, takers):
    joined_givers = set([giver for giver, _ in chosen])
    joined_takers = set([taker for _, taker in chosen])
    return len(joined_givers) == len(givers) and len(joined_takers) == len(takers)


def suffices(chosen, pairs, given, taken):
    """Return whether all heat can be passed on between the chosen pairs alone."""
    flow, _ = pass_on(given, taken, [pair for pair in pairs if pair not in chosen], {})
    return flow.lacking == 0

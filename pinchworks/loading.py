"""Loads of a structure as a linear program: the heats of streams, and conditions of the temperatures.

A condition is a triple (pair, factors, limit): the loads times their factors
may sum to at most the limit. Each pair of two streams has two of them, one
for each of its sides; all factors are integers from 0 on.
"""

from pinchworks.networks import COLD, HOT, OUTSIDE
from pinchworks.programs import solve, with_own
from pinchworks.ratios import NOTHING, minus

# What a unit of heat that a stream lacks costs at first, and by how much it grows where that is too cheap.
STEP = 1000000


def heats_of(streams):
    """Return the heats that take all streams to their goals."""
    return [rate * abs(start - goal) for start, goal, rate in streams]


def is_of(pair, number):
    """Return whether a pair of a structure is one of a stream."""
    return number in (pair[HOT], pair[COLD])


def conditions_of(streams, gap, structure):
    """Return the two conditions of each pair of two streams, in the order of the pairs."""
    found = []
    for index, (hot, cold) in enumerate(structure):
        if OUTSIDE in (hot, cold):
            continue
        hot_start, _, hot_rate = streams[hot]
        cold_start, _, cold_rate = streams[cold]
        limit = (hot_start - cold_start - gap) * hot_rate * cold_rate
        # The first condition is that of the side where the hot stream comes in and the cold one goes out.
        for own in (hot_rate, cold_rate):
            factors = []
            for at, pair in enumerate(structure):
                before = cold_rate if at < index and pair[HOT] == hot else 0
                behind = hot_rate if at > index and pair[COLD] == cold else 0
                factors.append(own if at == index else before + behind)
            found.append((index, factors, limit))
    return found


def best_loading(streams, gap, structure):
    """Return a triple (loads, u, w): the loads with the least heat from outside and their paper.

    Without any loads None stands in place of them, and the paper shows this.
    w is a list with one worth for each condition.
    """
    loads, _, u, w = any_loading(streams, gap, structure)
    if loads is None:
        return (None, u, w)
    costs = [1 if hot == OUTSIDE else 0 for hot, _ in structure]
    price = STEP
    loads, lacks, u, w = priced_loading(streams, gap, structure, costs, price)
    while is_lacking(lacks):
        # Loads that leave nothing lacking are there, so that they are the cheapest ones at some price.
        price *= STEP
        loads, lacks, u, w = priced_loading(streams, gap, structure, costs, price)
    return (loads, u, w)


def any_loading(streams, gap, structure):
    """Return a quadruple (loads, what streams lack with them, u, w), None in place of loads if there are none."""
    conditions = conditions_of(streams, gap, structure)
    for at, (_, _, limit) in enumerate(conditions):
        if limit < 0:
            # No load is negative, so this condition alone cannot hold.
            worths = [(1, 1) if at == one else NOTHING for one in range(len(conditions))]
            return (None, None, [NOTHING for _ in streams], worths)
    loads, lacks, u, w = priced_loading(streams, gap, structure, [0 for _ in structure], 1)
    return (None if is_lacking(lacks) else loads, lacks, u, w)


def is_lacking(lacks):
    return any([lack != NOTHING for lack in lacks])


def priced_loading(streams, gap, structure, costs, price):
    """Return the quadruple (loads, lacks, u, w) of least cost; heat that a stream lacks has a price.

    The limits of all conditions are from 0 on. u and w are the worths of the
    heats of streams and of the limits of conditions.
    """
    conditions = conditions_of(streams, gap, structure)
    rows = [[1 if is_of(pair, number) else 0 for pair in structure] for number in range(len(streams))]
    rows += [factors for _, factors, _ in conditions]
    sums = heats_of(streams) + [limit for _, _, limit in conditions]
    # The amounts of their own are what a stream lacks, and what is left up to a limit.
    table, basis = with_own(rows, sums)
    prices = costs + [price for _ in streams] + [0 for _ in conditions]
    _, amounts, spare = solve(table, prices, basis)
    first, middle = len(structure), len(structure) + len(streams)
    u = [minus((price, 1), one) for one in spare[first:middle]]
    return (amounts[:first], amounts[first:middle], u, spare[middle:])

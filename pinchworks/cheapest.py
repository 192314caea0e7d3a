"""The cheapest way to pass heat on where each pair of a giver and a taker has its price."""

from pinchworks.barring import shows_passing
from pinchworks.bodies import bodies_of, levels_of
from pinchworks.checks import check_problem, is_integer, is_row, is_within
from pinchworks.errors import BadPrices
from pinchworks.places import heats_of, pass_on, spots_of

MOST_PRICE = 100


def cheapest_passing(problem, prices):
    """Return the pair (cost, passing) of the cheapest passing that leaves the least heating."""
    table = priced_pairs(problem, prices)
    bodies = bodies_of(problem)
    given, taken = spots_of(bodies, levels_of(bodies))
    flow, arcs = pass_on(given, taken, (), table)
    return (flow.cost(), heats_of(flow, arcs, given, taken))


def shows_cheapest(problem, prices, value):
    table = priced_pairs(problem, prices)
    if not is_row(value, 2, 2) or not is_integer(value[0]) or not shows_passing(problem, (), value[1]):
        return False
    cost = sum([heat * table[(giver, taker)] for giver, _, taker, _, heat in value[1]])
    return value[0] == cost and cost == cheapest_passing(problem, prices)[0]


def priced_pairs(problem, prices):
    """Return a dict from all pairs (giver, taker) to their prices, after checking both arguments."""
    check_problem(problem)
    bodies = bodies_of(problem)
    givers = [number for number, body in enumerate(bodies) if body[2] > 0]
    takers = [number for number, body in enumerate(bodies) if body[2] < 0]
    if not is_row(prices, len(givers), len(givers)):
        raise BadPrices("prices are a tuple with one row for each giver")
    table = {}
    for giver, row in zip(givers, prices):
        if not is_row(row, len(takers), len(takers)) or not all([is_within(price, 0, MOST_PRICE) for price in row]):
            raise BadPrices(f"a row of prices has an integer from 0 to {MOST_PRICE} for each taker")
        for taker, price in zip(takers, row):
            table[(giver, taker)] = price
    return table

"""Rates that vary: the greatest least heating that they may bring about."""

from pinchworks.bodies import bodies_of, heating_of
from pinchworks.checks import check_problem, is_integer, is_row, is_within
from pinchworks.errors import BadSpreads


def worst_heating(problem, spreads):
    check_spreads(problem, spreads)
    return heating_with(problem, worst_of(problem, spreads))


def worst_rates(problem, spreads):
    """Return rates, each one at an end of its range, with the greatest least heating."""
    check_spreads(problem, spreads)
    return worst_of(problem, spreads)


def shows_rates(problem, spreads, value):
    check_spreads(problem, spreads)
    streams = problem[0]
    if not is_row(value, len(streams), len(streams)) or not all([is_integer(rate) for rate in value]):
        return False
    for rate, (_, _, middle), spread in zip(value, streams, spreads):
        if rate not in (middle - spread, middle + spread):
            return False
    return heating_with(problem, value) == heating_with(problem, worst_of(problem, spreads))


def check_spreads(problem, spreads):
    check_problem(problem)
    streams = problem[0]
    if not is_row(spreads, len(streams), len(streams)):
        raise BadSpreads("spreads are a tuple of one integer for each stream")
    for spread, (_, _, rate) in zip(spreads, streams):
        if not is_within(spread, 0, rate - 1):
            raise BadSpreads("a spread is an integer from 0 to the rate less 1")


def worst_of(problem, spreads):
    # Above any level, heat is lacking most if cold streams take in as much and hot ones give off as little as they may.
    rates = []
    for (start, goal, rate), spread in zip(problem[0], spreads):
        rates.append(rate - spread if start > goal else rate + spread)
    return tuple(rates)


def heating_with(problem, rates):
    """Return the least heating with other rates of the streams."""
    streams, boxes, gap = problem
    changed = [(start, goal, rate) for (start, goal, _), rate in zip(streams, rates)]
    return heating_of(bodies_of((changed, boxes, gap)))

"""Paths from heating to cooling in a network, and the load that relieves the exchangers on them."""

from pinchworks.chains import is_index_row, joins_by_turns, least_taken, shifted, ways_from
from pinchworks.checks import is_within
from pinchworks.errors import BadLoad, BadPath
from pinchworks.networks import COLD, HOT, OUTSIDE, check_network, side_temperatures
from pinchworks.ratios import NOTHING, minus


def path(problem, network):
    """Return a path, or None if there is none."""
    check_network(problem, network)
    return first_path(network)


def shows_path(problem, network, value):
    check_network(problem, network)
    if first_path(network) is None:
        return value is None
    return is_path(network, value)


def relieved(problem, network, path, load):
    """Return the network with a load added and taken by turns along a path."""
    check_path(problem, network, path)
    if not is_within(load, 0, least_taken(network, path) - 1):
        raise BadLoad("a load is at least 0 and smaller than the least one that it is taken from")
    return shifted(network, path, load)


def least_relief(problem, network, path):
    """Return the least load after which all differences of temperatures do, or None if there is none."""
    check_path(problem, network, path)
    low, high = 0, least_taken(network, path) - 1
    without, with_one = spare_degrees(problem, network), spare_degrees(problem, shifted(network, path, 1))
    # Each difference rises or falls evenly with the load, so that it sets one limit to it.
    for spare, next_spare in zip(without, with_one):
        step = minus(next_spare, spare)
        if step == NOTHING and spare[0] < 0:
            return None
        if step[0] > 0:
            low = max(low, -(spare[0] * step[1] // (spare[1] * step[0])))
        if step[0] < 0:
            high = min(high, spare[0] * step[1] // (-spare[1] * step[0]))
    return low if low <= high else None


def check_path(problem, network, path):
    check_network(problem, network)
    if not is_path(network, path):
        raise BadPath("not a path of this network")


def is_inner(exchanger):
    """Return whether an exchanger joins two streams."""
    return exchanger[HOT] != OUTSIDE and exchanger[COLD] != OUTSIDE


def first_path(network):
    inner = [index for index, exchanger in enumerate(network) if is_inner(exchanger)]
    for first, (heater, cold, _) in enumerate(network):
        if heater != OUTSIDE:
            continue
        ways = ways_from((COLD, cold), network, inner)
        for last, (hot, cooler, _) in enumerate(network):
            if cooler == OUTSIDE and (HOT, hot) in ways:
                return (first,) + ways[(HOT, hot)] + (last,)
    return None


def is_path(network, value):
    if not is_index_row(network, value, 3) or not len(value) & 1:
        return False
    if network[value[0]][HOT] != OUTSIDE or network[value[-1]][COLD] != OUTSIDE:
        return False
    return all([is_inner(network[index]) for index in value[1:-1]]) and joins_by_turns(network, value)


def spare_degrees(problem, network):
    """Return, for both sides of each exchanger of two streams, by how much its difference exceeds the gap."""
    streams, _, gap = problem
    hots = side_temperatures(streams, network, HOT)
    colds = side_temperatures(streams, network[::-1], COLD)[::-1]
    found = []
    for exchanger, (hot_in, hot_out), (cold_in, cold_out) in zip(network, hots, colds):
        if is_inner(exchanger):
            found.append(minus(minus(hot_in, cold_out), (gap, 1)))
            found.append(minus(minus(hot_out, cold_in), (gap, 1)))
    return found

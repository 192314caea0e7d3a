"""Heat that the exchangers of a network bring across a level."""

from pinchworks.checks import check_level
from pinchworks.networks import COLD, HOT, LOAD, OUTSIDE, check_network, temperatures
from pinchworks.ratios import minus, ratio, times, total


def crossing(problem, network, level):
    """Return the heat across a level: of exchangers of two streams, from outside below it, to outside above it."""
    check_network(problem, network)
    check_level(level)
    streams, _, gap = problem
    across, brought, carried = [], [], []
    for exchanger, (hot_in, hot_out, cold_in, cold_out) in zip(network, temperatures(problem, network)):
        given, taken = None, None
        if hot_in is not None:
            given = heat_over(hot_in, hot_out, level + gap, streams[exchanger[HOT]])
        if cold_in is not None:
            taken = heat_over(cold_out, cold_in, level, streams[exchanger[COLD]])
        if exchanger[HOT] == OUTSIDE:
            brought.append(minus((exchanger[LOAD], 1), taken))
        elif exchanger[COLD] == OUTSIDE:
            carried.append(given)
        else:
            across.append(minus(given, taken))
    return (total(across), total(brought), total(carried))


def heat_over(upper, lower, degrees, stream):
    """Return the heat of a stream between two temperatures as far as it lies over some degrees."""
    return times(minus(part_over(upper, degrees), part_over(lower, degrees)), stream[2])


def part_over(temperature, degrees):
    """Return by how much a ratio is greater than some degrees, 0 if it is not."""
    top, bottom = temperature
    return ratio(max(0, top - degrees * bottom), bottom)

"""Networks of exchangers: temperatures, the first flaw, and the heat from outside."""

from pinchworks.checks import check_boxless, is_row, is_within
from pinchworks.errors import BadNetwork
from pinchworks.ratios import is_apart, ratio

MOST_EXCHANGERS = 12
MOST_LOAD = 100000
OUTSIDE = -1
HOT = 0
COLD = 1
LOAD = 2


def temperatures(problem, network):
    """Return, for each exchanger, the tuple (hot in, hot out, cold in, cold out) of ratios, or None for outside."""
    check_network(problem, network)
    hots = side_temperatures(problem[0], network, HOT)
    # Cold streams go through their exchangers in the other order.
    colds = side_temperatures(problem[0], network[::-1], COLD)[::-1]
    return tuple([hot + cold for hot, cold in zip(hots, colds)])


def flaw(problem, network):
    """Return None for a sound network, otherwise ("goal", number) or ("gap", index)."""
    check_network(problem, network)
    for number, (start, goal, rate) in enumerate(problem[0]):
        if load_of(number, network) != rate * abs(goal - start):
            return ("goal", number)
    for index, (hot_in, hot_out, cold_in, cold_out) in enumerate(temperatures(problem, network)):
        if hot_in is None or cold_in is None:
            continue
        if not (is_apart(hot_in, cold_out, problem[2]) and is_apart(hot_out, cold_in, problem[2])):
            return ("gap", index)
    return None


def outside_of(problem, network):
    """Return the pair of all heat from outside and all heat that is carried off."""
    check_network(problem, network)
    brought = sum([load for hot, _, load in network if hot == OUTSIDE])
    carried = sum([load for _, cold, load in network if cold == OUTSIDE])
    return (brought, carried)


def is_end(value, streams, is_hot):
    """Return whether a value is the number of a hot, or of a cold, stream, or that of the outside."""
    if not is_within(value, OUTSIDE, len(streams) - 1):
        return False
    return value == OUTSIDE or (streams[value][0] > streams[value][1]) == is_hot


def is_join(hot, cold, streams):
    """Return whether two values are the two ends of an exchanger, not both outside."""
    if not (is_end(hot, streams, True) and is_end(cold, streams, False)):
        return False
    return hot != OUTSIDE or cold != OUTSIDE


def is_exchanger(value, streams):
    return is_row(value, 3, 3) and is_join(value[HOT], value[COLD], streams) and is_within(value[LOAD], 1, MOST_LOAD)


def check_network(problem, network):
    """Check a problem without boxes, and then a network for it."""
    check_boxless(problem)
    if not is_row(network, 0, MOST_EXCHANGERS):
        raise BadNetwork(None)
    for index, exchanger in enumerate(network):
        if not is_exchanger(exchanger, problem[0]):
            raise BadNetwork(index)


def load_of(number, network):
    return sum([load for hot, cold, load in network if number in (hot, cold)])


def side_temperatures(streams, exchangers, side):
    """Return the pairs (in, out) of the streams of one side, exchangers in the order in which they are passed."""
    passed = [0 for _ in streams]
    found = []
    for exchanger in exchangers:
        number = exchanger[side]
        if number == OUTSIDE:
            found.append((None, None))
            continue
        before = passed[number]
        passed[number] += exchanger[LOAD] if side == COLD else -exchanger[LOAD]
        start, _, rate = streams[number]
        found.append((ratio(start * rate + before, rate), ratio(start * rate + passed[number], rate)))
    return found

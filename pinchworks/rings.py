"""Rings of exchangers in a network, and how loads are moved around them."""

from pinchworks.chains import is_index_row, joins_by_turns, least_taken, shifted, ways_from
from pinchworks.checks import is_within
from pinchworks.errors import BadLoad, BadRing
from pinchworks.networks import COLD, HOT, LOAD, check_network


def ring_count(problem, network):
    """Return the number of exchangers less that of their ends plus that of the parts of the network."""
    check_network(problem, network)
    # Each exchanger either joins two parts, one of them perhaps a new end alone, or closes a ring.
    return len([index for index in range(len(network)) if way_back(network, index) is not None])


def ring(problem, network):
    """Return a ring, or None if there is none."""
    check_network(problem, network)
    return first_ring(network)


def shows_ring(problem, network, value):
    check_network(problem, network)
    if first_ring(network) is None:
        return value is None
    return is_ring(network, value)


def moved(problem, network, ring, load):
    """Return the network with a load added and taken by turns around a ring."""
    check_network(problem, network)
    if not is_ring(network, ring):
        raise BadRing("not a ring of this network")
    if not is_within(load, 1, least_taken(network, ring)):
        raise BadLoad("a load is at least 1 and at most the least one that it is taken from")
    return turned(network, ring, load)


def ringless(problem, network):
    """Return a network without a ring that has the same sum of loads at each end."""
    check_network(problem, network)
    rest = network
    found = first_ring(rest)
    while found is not None:
        rest = turned(rest, found, least_taken(rest, found))
        found = first_ring(rest)
    return rest


def first_ring(network):
    for index in range(len(network)):
        back = way_back(network, index)
        if back is not None:
            return (index,) + back
    return None


def way_back(network, index):
    """Return the indexes of earlier exchangers that lead from the cold end of an exchanger to its hot end, or None."""
    hot, cold, _ = network[index]
    return ways_from((COLD, cold), network, list(range(index))).get((HOT, hot))


def is_ring(network, value):
    if not is_index_row(network, value, 2) or len(value) & 1:
        return False
    return joins_by_turns(network, value + value[:1])


def turned(network, indexes, load):
    """Return the network after a load has been moved around a ring, without exchangers that are left empty."""
    return tuple([exchanger for exchanger in shifted(network, indexes, load) if exchanger[LOAD] > 0])

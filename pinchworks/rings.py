"""Rings of exchangers in a network, and how loads are moved around them."""

from pinchworks.checks import is_row, is_within
from pinchworks.errors import BadLoad, BadRing
from pinchworks.networks import COLD, HOT, LOAD, check_network


def ring_count(problem, network):
    """Return the number of exchangers less that of their ends plus that of the parts of the network."""
    check_network(problem, network)
    # Each exchanger either joins two parts, one of them perhaps a new end alone, or closes a ring.
    return len([index for index in range(len(network)) if way_back(network, index) is not None])


def ring(problem, network):
    """Return a ring, or None if there is none."""
    check_network(problem, network)
    return first_ring(network)


def shows_ring(problem, network, value):
    check_network(problem, network)
    if first_ring(network) is None:
        return value is None
    return is_ring(network, value)


def moved(problem, network, ring, load):
    """Return the network with a load added and taken by turns around a ring."""
    check_network(problem, network)
    if not is_ring(network, ring):
        raise BadRing("not a ring of this network")
    if not is_within(load, 1, least_taken(network, ring)):
        raise BadLoad("a load is at least 1 and at most the least one that it is taken from")
    return turned(network, ring, load)


def ringless(problem, network):
    """Return a network without a ring that has the same sum of loads at each end."""
    check_network(problem, network)
    rest = network
    found = first_ring(rest)
    while found is not None:
        rest = turned(rest, found, least_taken(rest, found))
        found = first_ring(rest)
    return rest


def way_back(network, index):
    """Return the indexes of earlier exchangers that lead from the cold end of an exchanger to its hot end.

    It is a shortest such way, so that it comes to no end twice; None if there is none.
    """
    hot, cold, _ = network[index]
    ways = {(COLD, cold): ()}
    queue = [(COLD, cold)]
    at = 0
    while at < len(queue):
        side, number = queue[at]
        at += 1
        for earlier in range(index):
            other = (1 - side, network[earlier][1 - side])
            if network[earlier][side] == number and other not in ways:
                ways[other] = ways[(side, number)] + (earlier,)
                queue.append(other)
    return ways.get((HOT, hot))


def first_ring(network):
    for index in range(len(network)):
        back = way_back(network, index)
        if back is not None:
            return (index,) + back
    return None


def is_ring(network, value):
    last = len(network) - 1
    if not is_row(value, 2, len(network)) or not all([is_within(index, 0, last) for index in value]):
        return False
    if len(value) & 1 or len(set(value)) < len(value):
        return False
    shared = []
    for at, index in enumerate(value):
        side = HOT if at & 1 else COLD
        following = value[(at + 1) % len(value)]
        if network[index][side] != network[following][side]:
            return False
        shared.append((side, network[index][side]))
    return len(set(shared)) == len(shared)


def least_taken(network, indexes):
    """Return the greatest load that can be moved around a ring."""
    return min([network[index][LOAD] for index in indexes[1::2]])


def turned(network, indexes, load):
    """Return the network after a load has been moved around a ring, without exchangers that are left empty."""
    changes = {index: -load if at & 1 else load for at, index in enumerate(indexes)}
    rest = []
    for index, (hot, cold, heat) in enumerate(network):
        left = heat + changes.get(index, 0)
        if left > 0:
            rest.append((hot, cold, left))
    return tuple(rest)

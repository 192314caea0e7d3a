"""Chains of exchangers: each one shares with the next one a cold end and a hot end by turns.

An end is a pair (side, number): a stream, or the outside, on the hot or on
the cold side of an exchanger.
"""

from pinchworks.checks import is_row, is_within
from pinchworks.networks import COLD, HOT, LOAD


def is_index_row(network, value, least):
    """Return whether a value is a tuple of at least so many unlike indexes of exchangers."""
    last = len(network) - 1
    if not is_row(value, least, len(network)) or not all([is_within(index, 0, last) for index in value]):
        return False
    return len(set(value)) == len(value)


def joins_by_turns(network, indexes):
    """Return whether neighbors share a cold end, then a hot end, and so on by turns, no end twice."""
    shared = []
    for at, (index, following) in enumerate(zip(indexes, indexes[1:])):
        side = HOT if at & 1 else COLD
        if network[index][side] != network[following][side]:
            return False
        shared.append((side, network[index][side]))
    return len(set(shared)) == len(shared)


def ways_from(end, network, indexes):
    """Return, for each end that can be reached from an end over some exchangers, their indexes on a way there.

    Each way is a shortest one, so that it comes to no end twice.
    """
    ways = {end: ()}
    queue = [end]
    at = 0
    while at < len(queue):
        side, number = queue[at]
        at += 1
        for index in indexes:
            other = (1 - side, network[index][1 - side])
            if network[index][side] == number and other not in ways:
                ways[other] = ways[(side, number)] + (index,)
                queue.append(other)
    return ways


def least_taken(network, indexes):
    """Return the least load at the second, fourth, .. places: no more can be taken from these."""
    return min([network[index][LOAD] for index in indexes[1::2]])


def shifted(network, indexes, load):
    """Return the network with a load added at the first, third, .. places and taken from the others."""
    changes = {index: -load if at & 1 else load for at, index in enumerate(indexes)}
    return tuple([(hot, cold, heat + changes.get(index, 0)) for index, (hot, cold, heat) in enumerate(network)])

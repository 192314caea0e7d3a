"""Places of heat: at the levels and between them, and heat that is passed on from place to place.

The place 2 k is the level number k, at which boxes stand, and the place
2 k + 1 the span from that level down to the next one. A spot is a triple
(number, place, heat): what one giver or taker has at one place.
"""

from pinchworks.bodies import heat_at, heat_between
from pinchworks.flows import Flow


def heat_at_place(body, place, descending):
    """Return the heat of a body at a place; negative if it is taken in."""
    at = place // 2
    if place == 2 * at:
        return heat_at(body, descending[at])
    return heat_between(body, descending[at], descending[at + 1])


def spots_of(bodies, descending):
    """Return the pair (spots of givers, spots of takers), both ascending."""
    given, taken = [], []
    for number, body in enumerate(bodies):
        for place in range(2 * len(descending) - 1):
            heat = heat_at_place(body, place, descending)
            if heat > 0:
                given.append((number, place, heat))
            if heat < 0:
                taken.append((number, place, -heat))
    return (given, taken)


def pass_on(given, taken, barred, prices):
    """Return a flow with as much heat passed on as goes, at the least cost, and its arcs as pairs of spots.

    The nodes are the spots of givers and then those of takers. `barred` holds
    the pairs (giver, taker) of numbers between which nothing is passed on,
    `prices` the prices of pairs, where these are not 0.
    """
    flow = Flow(len(given) + len(taken))
    for node, spot in enumerate(given):
        flow.give(node, spot[2])
    for node, spot in enumerate(taken, start=len(given)):
        flow.want(node, spot[2])
    arcs = {}
    for tail, (giver, from_place, heat) in enumerate(given):
        for head, (taker, to_place, _) in enumerate(taken):
            if from_place <= to_place and (giver, taker) not in barred:
                # One more than can ever flow: only what is given and wanted limits the heat.
                price = prices.get((giver, taker), 0)
                arcs[(tail, head)] = flow.link(tail, len(given) + head, heat + 1, price)
    flow.fill()
    return (flow, arcs)


def heats_of(flow, arcs, given, taken):
    """Return the ascending tuple of (giver, its place, taker, its place, heat) that a flow passes on."""
    heats = []
    for (tail, head), arc in arcs.items():
        heat = flow.carried(arc)
        if heat > 0:
            heats.append((given[tail][0], given[tail][1], taken[head][0], taken[head][1], heat))
    return tuple(sorted(heats))

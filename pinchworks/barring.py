"""Heat passed on where some givers may not heat some takers: the least heating, its papers, matches."""

from pinchworks.bodies import bodies_of, heat_above, is_body, levels_of, outside_with, whole_heat
from pinchworks.checks import check_problem, is_integer, is_row, is_threshold
from pinchworks.errors import BadBarred
from pinchworks.places import heat_at_place, heats_of, pass_on, spots_of


def barred_outside(problem, barred):
    """Return the pair (heating, cooling)."""
    bodies = checked_bodies(problem, barred)
    return outside_with(heating_with(bodies, barred), bodies)


def barred_paper(problem, barred):
    """Return None without heating, otherwise for each taker None or a pair (level, is_open)."""
    bodies = checked_bodies(problem, barred)
    descending = levels_of(bodies)
    given, taken = spots_of(bodies, descending)
    flow, _ = pass_on(given, taken, barred, {})
    if flow.lacking == 0:
        return None
    # The spots of takers to which no more heat can come lack all of the heating,
    # and so do all higher places of the same takers together with them.
    lowest = {number: None for number in takers_of(bodies)}
    reached = flow.arrivals()
    for node, (taker, place, _) in enumerate(taken, start=len(given)):
        if node not in reached:
            lowest[taker] = place
    return tuple([threshold_of(place, descending) for place in lowest.values()])


def shows_barred(problem, barred, value):
    bodies = checked_bodies(problem, barred)
    heating = heating_with(bodies, barred)
    if heating == 0:
        return value is None
    takers = takers_of(bodies)
    if not is_row(value, len(takers), len(takers)):
        return False
    if not all([edge is None or is_threshold(edge) for edge in value]):
        return False
    edges = {taker: edge for taker, edge in zip(takers, value) if edge is not None}
    return lack_of(bodies, barred, edges) == heating


def passing(problem, barred):
    """Return the tuples (giver, its place, taker, its place, heat) of heats that are passed on."""
    bodies = checked_bodies(problem, barred)
    given, taken = spots_of(bodies, levels_of(bodies))
    flow, arcs = pass_on(given, taken, barred, {})
    return heats_of(flow, arcs, given, taken)


def shows_passing(problem, barred, value):
    bodies = checked_bodies(problem, barred)
    last = 2 * len(levels_of(bodies)) - 2
    if not isinstance(value, tuple) or not all([may_pass(entry, bodies, barred, last) for entry in value]):
        return False
    if any([later[:4] <= entry[:4] for entry, later in zip(value, value[1:])]):
        return False
    if exceeds(bodies, [(giver, place, heat) for giver, place, _, _, heat in value]):
        return False
    if exceeds(bodies, [(taker, place, -heat) for _, _, taker, place, heat in value]):
        return False
    wanted = -sum([whole_heat(body) for body in bodies if body[2] < 0])
    return wanted - sum([entry[4] for entry in value]) == heating_with(bodies, barred)


def matches(problem, barred):
    """Return the triples (giver, taker, heat) of a passing."""
    sums = {}
    for giver, _, taker, _, heat in passing(problem, barred):
        sums[(giver, taker)] = sums.get((giver, taker), 0) + heat
    return tuple(sorted([(giver, taker, heat) for (giver, taker), heat in sums.items()]))


def is_barred_pair(value, bodies):
    return is_row(value, 2, 2) and is_body(value[0], bodies, True) and is_body(value[1], bodies, False)


def checked_bodies(problem, barred):
    """Return the bodies of a problem for which the barred pairs can stand."""
    check_problem(problem)
    bodies = bodies_of(problem)
    if not isinstance(barred, tuple):
        raise BadBarred(None)
    for index, pair in enumerate(barred):
        if not is_barred_pair(pair, bodies) or (index > 0 and pair <= barred[index - 1]):
            raise BadBarred(index)
    return bodies


def takers_of(bodies):
    return [number for number, body in enumerate(bodies) if body[2] < 0]


def heating_with(bodies, barred):
    given, taken = spots_of(bodies, levels_of(bodies))
    flow, _ = pass_on(given, taken, barred, {})
    return flow.lacking


def threshold_of(place, descending):
    """Return the pair (level, is_open) of all levels down to a place, this one included."""
    if place is None:
        return None
    at = place // 2
    if place == 2 * at:
        return (descending[at], False)
    return (descending[at + 1], True)


def lack_of(bodies, barred, edges):
    """Return what takers lack in any case above their levels, a dict from takers to pairs (level, is_open)."""
    lack = -sum([heat_above(bodies[taker], level, is_open) for taker, (level, is_open) in edges.items()])
    for giver, body in enumerate(bodies):
        # Of equal levels the one that is not open comes first here, and counts as the lower one.
        helped = sorted([edge for taker, edge in edges.items() if (giver, taker) not in barred])
        if body[2] > 0 and helped:
            level, is_open = helped[0]
            lack -= heat_above(body, level, is_open)
    return lack


def may_pass(entry, bodies, barred, last):
    """Return whether a value is a heat from a giver to a taker that may get it, the sums left aside."""
    if not is_row(entry, 5, 5) or not all([is_integer(number) for number in entry]):
        return False
    giver, from_place, taker, to_place, heat = entry
    if not is_barred_pair((giver, taker), bodies) or (giver, taker) in barred:
        return False
    return 0 <= from_place <= to_place <= last and heat > 0


def exceeds(bodies, spots):
    """Return whether the heats of spots, negative ones of takers, are more than there is at a place."""
    descending = levels_of(bodies)
    sums = {}
    for number, place, heat in spots:
        sums[(number, place)] = sums.get((number, place), 0) + heat
    for (number, place), heat in sums.items():
        if abs(heat) > abs(heat_at_place(bodies[number], place, descending)):
            return True
    return False

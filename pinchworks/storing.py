"""Heat stored from period to period: the least heating of all, papers of it, and the heating gap by gap."""

from pinchworks.bodies import bodies_of, edges_of, heat_above, heating_of, lack_above, outside_with
from pinchworks.checks import check_flag, check_gap, check_problem, is_problem, is_row, is_threshold
from pinchworks.errors import BadPeriods

MOST_PERIODS = 4


def stored_outside(periods, is_round):
    """Return the pair (sum of all heatings, sum of all coolings)."""
    rows = checked_rows(periods, is_round)
    heating, _ = most_lacking(rows, is_round)
    return outside_with(heating, [body for bodies in rows for body in bodies])


def stored_paper(periods, is_round):
    """Return None without heating, otherwise for each period None or a pair (level, is_open)."""
    heating, edges = most_lacking(checked_rows(periods, is_round), is_round)
    return None if heating == 0 else edges


def shows_stored(periods, is_round, value):
    rows = checked_rows(periods, is_round)
    heating, _ = most_lacking(rows, is_round)
    if heating == 0:
        return value is None
    if not is_row(value, len(rows), len(rows)):
        return False
    if not all([edge is None or is_threshold(edge) for edge in value]):
        return False
    return lack_of(rows, is_round, value) == heating


def gap_curve(problem, most):
    """Return the least heatings with the gaps from 0 to the greatest one."""
    check_problem(problem)
    check_gap(most)
    streams, boxes, _ = problem
    return tuple([heating_of(bodies_of((streams, boxes, gap))) for gap in range(most + 1)])


def check_periods(periods):
    if not is_row(periods, 1, MOST_PERIODS):
        raise BadPeriods(None)
    for index, problem in enumerate(periods):
        if not is_problem(problem) or problem[2] != periods[0][2]:
            raise BadPeriods(index)


def checked_rows(periods, is_round):
    """Return a list with the bodies of each period."""
    check_periods(periods)
    check_flag(is_round)
    return [bodies_of(problem) for problem in periods]


def most_lacking(rows, is_round):
    """Return the least heating and the edges, one for each period, above which all of it is lacking."""
    merged = [body for bodies in rows for body in bodies]
    if is_round:
        # All periods may get all heat, so that the lowest edge serves each of them best.
        lack, edges = best_edges([merged], edges_of(merged))
        return (lack, edges * len(rows))
    return best_edges(rows, edges_of(merged))


def best_edges(rows, edges):
    """Return the most that periods in a row lack above edges that do not fall from one to the next one, and these.

    Heat of a period may go to all later ones, so that an edge that is higher
    than a later one serves no better than this later one itself; and with
    edges that do not fall, each period's own edge is the lowest one that its
    heat may go to.
    """
    descending = [None] + edges
    # For each edge the most that all periods from one on lack if theirs is this edge or a higher one.
    chains = [(0, ()) for _ in descending]
    for bodies in rows[::-1]:
        found = []
        for edge, (lack, later) in zip(descending, chains):
            lack += 0 if edge is None else lack_above(bodies, edge[0], edge[1])
            if not found or lack > found[-1][0]:
                found.append((lack, (edge,) + later))
            else:
                found.append(found[-1])
        chains = found
    return chains[-1]


def lack_of(rows, is_round, edges):
    """Return what all periods lack in any case above their edges, each None or a pair (level, is_open)."""
    lack = 0
    for at, (bodies, edge) in enumerate(zip(rows, edges)):
        # Of equal levels the one that is not open comes first here, and counts as the lower one.
        helped = sorted([one for one in edges[0 if is_round else at:] if one is not None])
        for body in bodies:
            reach = edge if body[2] < 0 else (helped or [None])[0]
            if reach is not None:
                lack -= heat_above(body, reach[0], reach[1])
    return lack

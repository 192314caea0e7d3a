"""Columns moved to where they need least, and plants of a site that pass heat on to each other by mains."""

from pinchworks.bodies import bodies_of, edges_of, lack_above, levels_of, outside_with
from pinchworks.checks import MOST_BOX_HEAT, MOST_BOXES, MOST_DEGREES
from pinchworks.checks import check_problem, is_row, is_temperature, is_within
from pinchworks.choices import all_choices
from pinchworks.errors import BadColumns, BadLevel, BadMains, TooMany
from pinchworks.flows import Flow
from pinchworks.storing import check_periods
from pinchworks.supplies import needs_of

MOST_COLUMNS = 2
MOST_SHIFT = 50
MOST_MAINS = 5


def best_shifts(problem, columns, low, high):
    """Return the pair (smallest best shifts, heating), or None if no shifts let the columns stay in range."""
    check_problem(problem)
    check_columns(columns)
    if not is_within(low, -MOST_SHIFT, MOST_SHIFT) or not is_within(high, low, MOST_SHIFT):
        raise BadLevel(f"two integers from -{MOST_SHIFT} to {MOST_SHIFT} are needed, the first one not greater")
    if len(problem[1]) + 2 * len(columns) > MOST_BOXES:
        raise TooMany(MOST_BOXES)
    bodies = bodies_of(problem)
    rungs = [2 * level + (1 if is_open else 0) for level, is_open in edges_of(bodies)]
    lacks = {rung: lack_at(bodies, rung) for rung in rungs}
    ranges = [list(range(max(low, -bottom), min(high, MOST_DEGREES - top) + 1)) for top, bottom, _ in columns]
    best = None
    for shifts in all_choices(ranges):
        spans = [span_of(column, shift, problem[2]) for column, shift in zip(columns, shifts)]
        ends = {rung: lack_at(bodies, rung) for lowest, highest, _ in spans for rung in (lowest, highest)}
        heating = max(raised(lacks, spans) + raised(ends, spans))
        if best is None or heating < best[1]:
            best = (shifts, heating)
    return best


def site_outside(problems, mains):
    """Return the pair (sum of all heatings, sum of all coolings) of plants with mains between them."""
    check_periods(problems)
    check_mains(mains)
    rows = [bodies_of(problem) for problem in problems]
    heating = lacking_of(rows, mains, problems[0][2])
    return outside_with(heating, [body for bodies in rows for body in bodies])


def is_column(value):
    if not is_row(value, 3, 3):
        return False
    top, bottom, heat = value
    return is_temperature(top) and is_temperature(bottom) and top > bottom and is_within(heat, 1, MOST_BOX_HEAT)


def check_columns(columns):
    if not is_row(columns, 1, MOST_COLUMNS):
        raise BadColumns(None)
    for index, column in enumerate(columns):
        if not is_column(column):
            raise BadColumns(index)


def check_mains(mains):
    if not is_row(mains, 0, MOST_MAINS) or not all([is_temperature(main) for main in mains]):
        raise BadMains(f"mains are a tuple of at most {MOST_MAINS} temperatures")
    if any([main >= following for main, following in zip(mains, mains[1:])]):
        raise BadMains("mains stand in ascending order")


def lack_at(bodies, rung):
    """Return what bodies lack above a rung: twice a level, and 1 more where the level itself does not count."""
    return lack_above(bodies, rung // 2, (rung & 1) == 1)


def span_of(column, shift, gap):
    """Return the lowest and the highest rung at which a shifted column raises what is lacking, and by how much."""
    top, bottom, heat = column
    return (2 * (bottom + shift - gap) + 1, 2 * (top + shift), heat)


def raised(lacks, spans):
    """Return the list of what is lacking at rungs, a dict from these to what is lacking without the columns."""
    found = []
    for rung, lack in lacks.items():
        found.append(lack + sum([heat for lowest, highest, heat in spans if lowest <= rung <= highest]))
    return found


def lacking_of(rows, mains, gap):
    """Return the least sum of all heatings of plants, each one given by its bodies.

    The nodes are the mains, and then for each plant its levels in descending
    order, with those from which and to which mains pass heat on among them.
    """
    edges = list(mains) + [main - gap for main in mains]
    scales = [sorted(set(levels_of(bodies) + edges))[::-1] for bodies in rows]
    needs = [needs_of(bodies, descending) for bodies, descending in zip(rows, scales)]
    # More than can ever flow: only what is given and wanted limits the heat.
    plenty = 1 + sum([abs(need) for row in needs for need in row])
    first = len(mains)
    flow = Flow(first + sum([len(descending) for descending in scales]))
    for descending, row in zip(scales, needs):
        nodes = {level: node for node, level in enumerate(descending, start=first)}
        first += len(descending)
        for upper, lower in zip(descending, descending[1:]):
            flow.link(nodes[upper], nodes[lower], plenty, 0)
        for main, temperature in enumerate(mains):
            flow.link(nodes[temperature], main, plenty, 0)
            flow.link(main, nodes[temperature - gap], plenty, 0)
        for level, need in zip(descending, row):
            if need < 0:
                flow.give(nodes[level], -need)
            if need > 0:
                flow.want(nodes[level], need)
    flow.fill()
    return flow.lacking

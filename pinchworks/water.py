"""Water passed on from sources to sinks: the least fresh water, plans with it, and papers of it."""

from pinchworks.checks import is_row
from pinchworks.mixing import check_water, mixed
from pinchworks.ratios import is_amount_row, is_at_most, is_ratio_row, plus, times, total


def least_fresh(water):
    check_water(water)
    return fresh_mixed(water)[0]


def water_plan(water):
    """Return a pair (table, fresh) of flows."""
    check_water(water)
    _, table, fresh, _ = fresh_mixed(water)
    return (table, fresh)


def water_paper(water):
    """Return a triple (a, b, c) of worths."""
    check_water(water)
    return fresh_mixed(water)[3]


def shows_plan(water, value):
    check_water(water)
    sources, sinks = water
    if not is_row(value, 2, 2) or not is_row(value[0], len(sources), len(sources)):
        return False
    table, fresh = value
    if not all([is_amount_row(row, len(sinks)) for row in table]) or not is_amount_row(fresh, len(sinks)):
        return False
    for (flow, _), row in zip(sources, table):
        if not is_at_most(total(row), (flow, 1)):
            return False
    for sink, (flow, dirt) in enumerate(sinks):
        got = [row[sink] for row in table]
        dirts = [times(one, own) for one, (_, own) in zip(got, sources)]
        if plus(total(got), fresh[sink]) != (flow, 1) or not is_at_most(total(dirts), (flow * dirt, 1)):
            return False
    return total(fresh) == fresh_mixed(water)[0]


def shows_water(water, value):
    check_water(water)
    sources, sinks = water
    if not is_row(value, 3, 3):
        return False
    of_sinks, of_dirts, of_sources = value
    if not is_ratio_row(of_sinks, len(sinks)):
        return False
    if not is_amount_row(of_dirts, len(sinks)) or not is_amount_row(of_sources, len(sources)):
        return False
    for worth, of_dirt in zip(of_sinks, of_dirts):
        limits = [plus(times(of_dirt, dirt), own) for (_, dirt), own in zip(sources, of_sources)]
        if not all([is_at_most(worth, limit) for limit in limits + [(1, 1)]]):
            return False
    return worth_of(water, value) == fresh_mixed(water)[0]


def fresh_mixed(water):
    """Return the quadruple (least sum of fresh flows, table, fresh, paper)."""
    ways = [(source, dirt, 0) for source, (_, dirt) in enumerate(water[0])]
    return mixed(water, ways, 1)


def worth_of(water, paper):
    """Return the cost that a paper shows no plan to stay below."""
    sources, sinks = water
    of_sinks, of_dirts, of_sources = paper
    parts = [times(worth, flow) for worth, (flow, _) in zip(of_sinks, sinks)]
    parts += [times(worth, -flow * dirt) for worth, (flow, dirt) in zip(of_dirts, sinks)]
    parts += [times(worth, -flow) for worth, (flow, _) in zip(of_sources, sources)]
    return total(parts)

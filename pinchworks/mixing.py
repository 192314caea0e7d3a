"""Water mixed for sinks at the least cost, and the worths that show it."""

from pinchworks.checks import is_row, is_within
from pinchworks.errors import BadWater
from pinchworks.programs import solve, with_own
from pinchworks.ratios import minus

MOST_WATERS = 4
MOST_FLOW = 1000
MOST_DIRT = 1000


def is_dirt(value):
    return is_within(value, 0, MOST_DIRT)


def is_water_pair(value):
    return is_row(value, 2, 2) and is_within(value[0], 1, MOST_FLOW) and is_dirt(value[1])


def check_water(water):
    if not is_row(water, 2, 2) or not all([is_row(side, 1, MOST_WATERS) for side in water]):
        raise BadWater(None)
    for index, pair in enumerate(water[0] + water[1]):
        if not is_water_pair(pair):
            raise BadWater(index)


def mixed(water, ways, fresh_price):
    """Return a quadruple (least cost, table, fresh, worths) of ratios.

    A way is a triple (source, dirt, price): water of a source may go to any
    sinks on it, with this dirt and at this price for each unit. The table has
    one row for each way and in it one flow for each sink. The worths are
    those of water for each sink, of dirt for each sink and of water of each
    source, as papers name them.
    """
    sources, sinks = water
    many = len(sinks)
    costs = [price for _, _, price in ways for _ in sinks] + [fresh_price for _ in sinks]
    fresh_at = len(ways) * many
    spare_at = fresh_at + many
    costs += [0 for _ in sinks + sources]
    rows, basis = rows_of(water, ways)
    cost, amounts, prices = solve(rows, costs, basis)
    table = tuple([tuple(amounts[at * many:(at + 1) * many]) for at in range(len(ways))])
    # The worth of water for a sink is the price of fresh water less what fresh water costs too much there.
    of_sinks = tuple([minus((fresh_price, 1), price) for price in prices[fresh_at:spare_at]])
    of_dirts = tuple(prices[spare_at:spare_at + many])
    of_sources = tuple(prices[spare_at + many:])
    return (cost, table, tuple(amounts[fresh_at:spare_at]), (of_sinks, of_dirts, of_sources))


def rows_of(water, ways):
    """Return the rows of the flows of all sinks, then of their dirt, then of the flows of all sources, and a basis."""
    sources, sinks = water
    rows, sums = [], []
    for sink, (flow, _) in enumerate(sinks):
        rows.append([1 if at == sink else 0 for _ in ways for at in range(len(sinks))])
        sums.append(flow)
    for sink, (flow, dirt) in enumerate(sinks):
        rows.append([own if at == sink else 0 for _, own, _ in ways for at in range(len(sinks))])
        sums.append(flow * dirt)
    for source, (flow, _) in enumerate(sources):
        rows.append([1 if own == source else 0 for own, _, _ in ways for _ in sinks])
        sums.append(flow)
    # The amounts of their own are fresh water, room for dirt, and what a source keeps.
    return with_own(rows, sums)

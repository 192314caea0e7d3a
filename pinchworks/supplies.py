"""The cheapest heat from outside at several temperatures, and papers of its cost."""

from pinchworks.bodies import bodies_of, heat_at, heat_between, levels_of
from pinchworks.checks import check_problem, is_integer, is_row, is_temperature, is_within
from pinchworks.errors import BadSupplies
from pinchworks.flows import Flow

MOST_SUPPLIES = 5
MOST_PRICE = 1000


def cheapest_supply(problem, hots, colds):
    """Return a triple (cost, brought, carried), or None if no amounts do."""
    check_supplied(problem, hots, colds)
    flow, hot_arcs, cold_arcs = supply_flow(problem, hots, colds)
    if flow.lacking:
        return None
    brought = tuple([flow.carried(arc) for arc in hot_arcs])
    carried = tuple([flow.carried(arc) for arc in cold_arcs])
    return (flow.cost(), brought, carried)


def worth_paper(problem, hots, colds):
    """Return the worth of a unit of heat at each level, descending, or None if there is no cost."""
    check_supplied(problem, hots, colds)
    flow, _, _ = supply_flow(problem, hots, colds)
    if flow.lacking:
        return None
    outside = len(supplied_levels(problem, hots, colds))
    worths = flow.worths()
    return tuple([worth - worths[outside] for worth in worths[:outside]])


def shows_worth(problem, hots, colds, value):
    check_supplied(problem, hots, colds)
    flow, _, _ = supply_flow(problem, hots, colds)
    if flow.lacking:
        return value is None
    descending = supplied_levels(problem, hots, colds)
    many = len(descending)
    if not is_row(value, many, many) or not all([is_integer(worth) for worth in value]):
        return False
    if any([upper < lower for upper, lower in zip(value, value[1:])]):
        return False
    worths = dict(zip(descending, value))
    if any([worths[degrees - problem[2]] > price for degrees, price in hots]):
        return False
    if any([-worths[degrees] > price for degrees, price in colds]):
        return False
    needs = needs_of(bodies_of(problem), descending)
    return sum([need * worth for need, worth in zip(needs, value)]) == flow.cost()


def is_supply(value):
    return is_row(value, 2, 2) and is_temperature(value[0]) and is_within(value[1], 0, MOST_PRICE)


def check_supplies(supplies):
    if not is_row(supplies, 1, MOST_SUPPLIES):
        raise BadSupplies(None)
    for index, supply in enumerate(supplies):
        if not is_supply(supply):
            raise BadSupplies(index)


def check_supplied(problem, hots, colds):
    check_problem(problem)
    check_supplies(hots)
    check_supplies(colds)


def supplied_levels(problem, hots, colds):
    """Return the descending list of all unlike levels of the problem and of the supplies."""
    found = levels_of(bodies_of(problem))
    found += [temperature - problem[2] for temperature, _ in hots]
    found += [temperature for temperature, _ in colds]
    return sorted(set(found))[::-1]


def needs_of(bodies, descending):
    """Return, for each level, the heat that is lacking there (negative if some is left over).

    What streams lack between two levels has to come down from the upper one,
    and what they have left over can only be used from the lower one on.
    """
    needs = [-sum([heat_at(body, level) for body in bodies]) for level in descending]
    for at, (upper, lower) in enumerate(zip(descending, descending[1:])):
        need = -sum([heat_between(body, upper, lower) for body in bodies])
        needs[at if need > 0 else at + 1] += need
    return needs


def supply_flow(problem, hots, colds):
    """Return the flow with the least price, and the arcs of the hot and of the cold supplies in it.

    The nodes are the levels in descending order, and then the outside.
    """
    descending = supplied_levels(problem, hots, colds)
    needs = needs_of(bodies_of(problem), descending)
    outside = len(descending)
    # More than can ever flow, so that these arcs always have room left.
    plenty = 1 + sum([abs(need) for need in needs])
    flow = Flow(outside + 1)
    for node in range(outside - 1):
        flow.link(node, node + 1, plenty, 0)
    nodes = {level: node for node, level in enumerate(descending)}
    hot_arcs = [flow.link(outside, nodes[degrees - problem[2]], plenty, price) for degrees, price in hots]
    cold_arcs = [flow.link(nodes[degrees], outside, plenty, price) for degrees, price in colds]
    for node, need in enumerate(needs + [-sum(needs)]):
        if need < 0:
            flow.give(node, -need)
        if need > 0:
            flow.want(node, need)
    flow.fill()
    return (flow, hot_arcs, cold_arcs)

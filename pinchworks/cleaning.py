"""Water that may be cleaned: the least cost, plans with it, and papers of it."""

from pinchworks.checks import is_within
from pinchworks.errors import BadDirt, BadPrice
from pinchworks.mixing import check_water, is_dirt, mixed
from pinchworks.ratios import least, times, total

MOST_PRICE = 1000


def cleaned_cost(water, dirt, fresh_price, price):
    return checked_mix(water, dirt, fresh_price, price)[0]


def cleaned_plan(water, dirt, fresh_price, price):
    """Return the quadruple (table, fresh, sent to the cleaner, got from it) of flows."""
    _, table, fresh, _ = checked_mix(water, dirt, fresh_price, price)
    many = len(water[0])
    through = table[many:]
    sent = tuple([total(row) for row in through])
    cleaned = tuple([total(flows) for flows in zip(*through)])
    return (table[:many], fresh, sent, cleaned)


def cleaning_paper(water, dirt, fresh_price, price):
    """Return the quadruple (a, b, c, e) of worths."""
    _, _, _, (of_sinks, of_dirts, of_sources) = checked_mix(water, dirt, fresh_price, price)
    # Water for the cleaner is worth what the source with the least worth asks for it.
    return (of_sinks, of_dirts, of_sources, times(least(of_sources), -1))


def checked_mix(water, dirt, fresh_price, price):
    """Return the quadruple (least cost, table, fresh, worths); the second half of the table is cleaned."""
    check_water(water)
    if not is_dirt(dirt):
        raise BadDirt("dirt is an integer from 0 to 1000")
    for one in (fresh_price, price):
        if not is_within(one, 0, MOST_PRICE):
            raise BadPrice(f"a price is an integer from 0 to {MOST_PRICE}")
    plain = [(source, own, 0) for source, (_, own) in enumerate(water[0])]
    through = [(source, dirt, price) for source in range(len(water[0]))]
    return mixed(water, plain + through, fresh_price)

"""Engines, pumps and boxes that are added to a problem, and what they change."""

from pinchworks.bodies import bodies_of, heating_of
from pinchworks.cascades import least_outside
from pinchworks.checks import MOST_BOX_HEAT, MOST_BOXES
from pinchworks.checks import check_boxes, check_problem, is_integer, is_row, is_temperature, is_within
from pinchworks.errors import BadEngine, BadLevel, BadLoad, TooMany


def with_boxes(problem, boxes):
    """Return the problem with more boxes behind its own."""
    check_problem(problem)
    check_boxes(boxes)
    return enlarged(problem, boxes)


def engine_effect(problem, engine):
    """Return the pair of what the heating and the cooling become more by an engine."""
    check_engine(problem, engine)
    top, bottom, heat, work = engine
    return effect_of(problem, ((top, -heat), (bottom, heat - work)))


def pump_effect(problem, engine):
    """Return the pair of what the heating and the cooling become more by an engine that is turned around."""
    check_engine(problem, engine)
    top, bottom, heat, work = engine
    return effect_of(problem, ((bottom, work - heat), (top, heat)))


def placing(problem, engine):
    more, _ = engine_effect(problem, engine)
    _, _, heat, work = engine
    if more < work:
        return "free"
    if more == work:
        return "even"
    return "across" if more == heat else "between"


def best_place(problem, heat, low, high):
    """Return the least temperature at which a box more makes the heating smallest, and that heating."""
    check_problem(problem)
    if not is_within(heat, -MOST_BOX_HEAT, MOST_BOX_HEAT) or heat == 0:
        raise BadLoad("a box has a heat that is not 0")
    if not is_temperature(low) or not is_temperature(high) or low > high:
        raise BadLevel("two temperatures are needed, the first one not greater")
    # What gives off heat serves best at the greatest temperature, what takes it in at the least one.
    best = high if heat > 0 else low
    heating = heating_at(problem, best, heat)
    while low < best:
        middle = (low + best) // 2
        if heating_at(problem, middle, heat) == heating:
            best = middle
        else:
            low = middle + 1
    return (best, heating)


def check_engine(problem, engine):
    """Check a problem, and then an engine."""
    check_problem(problem)
    if not is_row(engine, 4, 4) or not all([is_integer(part) for part in engine]):
        raise BadEngine("an engine is a tuple of four integers")
    top, bottom, heat, work = engine
    if not is_temperature(top) or not is_temperature(bottom) or top <= bottom:
        raise BadEngine("an engine has two temperatures, the first one greater")
    if not 1 <= work < heat <= MOST_BOX_HEAT:
        raise BadEngine(f"an engine has a work from 1 on, and a greater heat up to {MOST_BOX_HEAT}")


def enlarged(problem, boxes):
    streams, own, gap = problem
    if len(own) + len(boxes) > MOST_BOXES:
        raise TooMany(MOST_BOXES)
    return (streams, own + boxes, gap)


def effect_of(problem, boxes):
    heating, cooling = least_outside(problem)
    new_heating, new_cooling = least_outside(enlarged(problem, boxes))
    return (new_heating - heating, new_cooling - cooling)


def heating_at(problem, temperature, heat):
    """Return the least heating with a box more."""
    return heating_of(bodies_of(enlarged(problem, ((temperature, heat),))))

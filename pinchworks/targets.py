"""Targets: how much heat from outside can come, and go, at a temperature, and the fewest entries around a level."""

from pinchworks.bodies import bodies_of, edges_of, heat_above, heating_of, lack_above, outside_with, whole_heat
from pinchworks.checks import check_boxless, check_level, check_problem, is_temperature
from pinchworks.errors import BadLevel, TooMany
from pinchworks.units import MOST_LOADS, groups_of


def most_at(problem, temperature):
    """Return how much of the least heating can be brought at a temperature."""
    check_place(problem, temperature)
    bodies = bodies_of(problem)
    level = temperature - problem[2]
    # What is lacking above the level has to be brought at the highest one all the same.
    edges = [edge for edge in edges_of(bodies) if edge[0] > level] + [(level, True)]
    return heating_of(bodies) - max([0] + [lack_above(bodies, place, is_open) for place, is_open in edges])


def most_from(problem, temperature):
    """Return how much of the cooling can be carried off at a temperature."""
    check_place(problem, temperature)
    bodies = bodies_of(problem)
    heating, cooling = outside_with(heating_of(bodies), bodies)
    # What is carried off does not flow on, from the temperature itself downward.
    edges = [edge for edge in edges_of(bodies) if edge[0] < temperature] + [(temperature, False)]
    return min([cooling] + [heating - lack_above(bodies, place, is_open) for place, is_open in edges])


def unit_target(problem, level):
    """Return the least numbers of entries above and below a level."""
    check_boxless(problem)
    check_level(level)
    bodies = bodies_of(problem)
    above = [heat_above(body, level, True) for body in bodies]
    below = [whole_heat(body) - heat for body, heat in zip(bodies, above)]
    sides = [balanced(heats) for heats in (above, below)]
    if any([len(loads) > MOST_LOADS for side in sides for loads in side]):
        raise TooMany(MOST_LOADS)
    return tuple([len(givers) + len(takers) - groups_in(givers, takers) for givers, takers in sides])


def check_place(problem, temperature):
    check_problem(problem)
    if not is_temperature(temperature):
        raise BadLevel("a temperature is needed")


def balanced(heats):
    """Return the heats that are given off and those that are taken in, with one more so that the sums are equal."""
    rest = -sum(heats)
    every = heats + [rest]
    return ([heat for heat in every if heat > 0], [-heat for heat in every if heat < 0])


def groups_in(givers, takers):
    """Return the greatest number of balanced groups, 0 for a side without parts."""
    return len(groups_of(givers, takers)) if givers else 0

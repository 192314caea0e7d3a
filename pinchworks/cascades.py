"""Levels, the least heat from outside, the cascade of heat down the levels, and its papers."""

from pinchworks.bodies import bodies_of, edges_of, heat_above, heating_of, lack_above, levels_of, outside_with
from pinchworks.checks import check_level, check_problem, is_threshold


def levels(problem):
    check_problem(problem)
    return tuple(levels_of(bodies_of(problem)))


def given_above(problem, level):
    """Return the heat that is given off, and the heat that is taken in, at greater levels."""
    check_problem(problem)
    check_level(level)
    heats = [heat_above(body, level, True) for body in bodies_of(problem)]
    return (sum([heat for heat in heats if heat > 0]), -sum([heat for heat in heats if heat < 0]))


def least_outside(problem):
    """Return the pair (heating, cooling)."""
    check_problem(problem)
    bodies = bodies_of(problem)
    return outside_with(heating_of(bodies), bodies)


def cascade(problem):
    """Return the triples (level, heat that flows down to it, heat that flows on from it)."""
    check_problem(problem)
    bodies = bodies_of(problem)
    heating = heating_of(bodies)
    steps = []
    for level in levels_of(bodies):
        before = heating - lack_above(bodies, level, True)
        behind = heating - lack_above(bodies, level, False)
        steps.append((level, before, behind))
    return tuple(steps)


def heating_paper(problem):
    """Return None without heating, otherwise a pair (level, is_open) above which all of it is lacking."""
    check_problem(problem)
    bodies = bodies_of(problem)
    heating = heating_of(bodies)
    if heating == 0:
        return None
    return [edge for edge in edges_of(bodies) if lack_above(bodies, edge[0], edge[1]) == heating][0]


def shows_heating(problem, value):
    check_problem(problem)
    bodies = bodies_of(problem)
    heating = heating_of(bodies)
    if heating == 0:
        return value is None
    return is_threshold(value) and lack_above(bodies, value[0], value[1]) == heating


def pinches(problem):
    """Return the levels to which, or from which, no heat flows."""
    return tuple([level for level, before, behind in cascade(problem) if before == 0 or behind == 0])

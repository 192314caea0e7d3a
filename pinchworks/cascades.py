"""Levels, the least heat from outside, the cascade of heat down the levels, and its papers."""

from pinchworks.bodies import bodies_of, heat_above, lack_above, levels_of, whole_heat
from pinchworks.checks import check_level, check_problem, is_threshold


def levels(problem):
    check_problem(problem)
    return tuple(levels_of(bodies_of(problem)))


def given_above(problem, level):
    """Return the heat that is given off, and the heat that is taken in, at greater levels."""
    check_problem(problem)
    check_level(level)
    heats = [heat_above(body, level, True) for body in bodies_of(problem)]
    return (sum([heat for heat in heats if heat > 0]), -sum([heat for heat in heats if heat < 0]))


def least_outside(problem):
    """Return the pair (heating, cooling)."""
    check_problem(problem)
    bodies = bodies_of(problem)
    heating = heating_of(bodies)
    return (heating, heating + sum([whole_heat(body) for body in bodies]))


def cascade(problem):
    """Return the triples (level, heat that flows down to it, heat that flows on from it)."""
    check_problem(problem)
    bodies = bodies_of(problem)
    heating = heating_of(bodies)
    steps = []
    for level in levels_of(bodies):
        before = heating - lack_above(bodies, level, True)
        behind = heating - lack_above(bodies, level, False)
        steps.append((level, before, behind))
    return tuple(steps)


def heating_paper(problem):
    """Return None without heating, otherwise a pair (level, is_open) above which all of it is lacking."""
    check_problem(problem)
    bodies = bodies_of(problem)
    heating = heating_of(bodies)
    if heating == 0:
        return None
    return [edge for edge in edges_of(bodies) if lack_above(bodies, edge[0], edge[1]) == heating][0]


def shows_heating(problem, value):
    check_problem(problem)
    bodies = bodies_of(problem)
    heating = heating_of(bodies)
    if heating == 0:
        return value is None
    return is_threshold(value) and lack_above(bodies, value[0], value[1]) == heating


def pinches(problem):
    """Return the levels to which, or from which, no heat flows."""
    return tuple([level for level, before, behind in cascade(problem) if before == 0 or behind == 0])


def edges_of(bodies):
    """Return the pairs (level, is_open) between which what is lacking rises or falls evenly."""
    found = []
    for level in levels_of(bodies):
        found.append((level, True))
        found.append((level, False))
    return found


def heating_of(bodies):
    # Above the highest level nothing is lacking, so this is never negative.
    return max([lack_above(bodies, level, is_open) for level, is_open in edges_of(bodies)])

"""Streams and boxes seen alike: as bodies that give off or take in heat at levels.

A body is a triple (upper, lower, amount). A stream lies between two unlike
levels, and its amount is the heat for each degree; a box has the same level
twice, and its amount is its heat. Amounts that are taken in are negative.
Bodies stand in the order of the numbers of streams and boxes.
"""

from pinchworks.checks import is_within


def bodies_of(problem):
    streams, boxes, gap = problem
    found = []
    for start, goal, rate in streams:
        if start > goal:
            found.append((start - gap, goal - gap, rate))
        else:
            found.append((goal, start, -rate))
    for temperature, heat in boxes:
        level = temperature - gap if heat > 0 else temperature
        found.append((level, level, heat))
    return found


def levels_of(bodies):
    """Return the descending list of all unlike levels at which bodies begin and end."""
    found = []
    for upper, lower, _ in bodies:
        found.append(upper)
        found.append(lower)
    return sorted(set(found))[::-1]


def is_body(number, bodies, gives):
    """Return whether a value is the number of a giver, or of a taker."""
    return is_within(number, 0, len(bodies) - 1) and (bodies[number][2] > 0) == gives


def is_box_body(body):
    return body[0] == body[1]


def whole_heat(body):
    upper, lower, amount = body
    return amount if is_box_body(body) else amount * (upper - lower)


def heat_above(body, level, is_open):
    """Return the heat of a body at levels not smaller than a level, or greater than it if `is_open`."""
    upper, lower, amount = body
    if is_box_body(body):
        return amount if upper > level or (upper == level and not is_open) else 0
    return amount * max(0, upper - max(lower, level))


def heat_at(body, level):
    """Return the heat of a body at just this level: only boxes have any."""
    return heat_above(body, level, False) - heat_above(body, level, True)


def heat_between(body, upper, lower):
    """Return the heat of a body at levels between two levels, without these."""
    return heat_above(body, lower, True) - heat_above(body, upper, False)


def lack_above(bodies, level, is_open):
    """Return the heat that is taken in there less the heat that is given off there."""
    return -sum([heat_above(body, level, is_open) for body in bodies])


def edges_of(bodies):
    """Return the pairs (level, is_open) between which what is lacking rises or falls evenly, from the top down."""
    found = []
    for level in levels_of(bodies):
        found.append((level, True))
        found.append((level, False))
    return found


def heating_of(bodies):
    """Return the least heating, 0 without bodies."""
    # Above the highest level nothing is lacking, so this is never negative.
    return max([lack_above(bodies, level, is_open) for level, is_open in edges_of(bodies)], default=0)


def outside_with(heating, bodies):
    """Return the pair (heating, the cooling with it)."""
    return (heating, heating + sum([whole_heat(body) for body in bodies]))

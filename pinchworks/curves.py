"""The lines of heat and temperature of givers and takers, and how near they come to each other."""

from pinchworks.bodies import bodies_of, heat_at, heat_between, levels_of
from pinchworks.checks import check_flag, check_problem, is_integer
from pinchworks.errors import BadHeating
from pinchworks.ratios import least, minus, ratio


def curve(problem, gives):
    """Return the corners (heat, temperature) of the line of all givers, or of all takers."""
    check_problem(problem)
    check_flag(gives)
    return line_of(problem, gives)


def approach(problem, heating):
    """Return the least difference of temperatures between both lines, or None where they share no heat."""
    check_problem(problem)
    given, taken = line_of(problem, True), line_of(problem, False)
    all_given, all_taken = length_of(given), length_of(taken)
    if not is_integer(heating) or heating < max(0, all_taken - all_given):
        raise BadHeating("a heating is an integer, and at least 0 and what is lacking in all")
    begin = heating - all_taken + all_given
    moved = [(heat + begin, temperature) for heat, temperature in taken]
    bends = [heat for heat, _ in list(given) + moved if begin <= heat <= all_given]
    heats = sorted(set(bends))
    gaps = []
    for left, right in zip(heats, heats[1:]):
        # Between two bends both lines are straight; a step at a bend is outside, on either side of it.
        upper, lower = piece_of(given, left, right), piece_of(moved, left, right)
        gaps.append(minus(temperature_at(upper, left), temperature_at(lower, left)))
        gaps.append(minus(temperature_at(upper, right), temperature_at(lower, right)))
    return least(gaps) if gaps else None


def line_of(problem, gives):
    streams, boxes, _ = problem
    # Without a gap, levels are temperatures.
    bodies = [body for body in bodies_of((streams, boxes, 0)) if (body[2] > 0) == gives]
    temperatures = levels_of(bodies)[::-1]
    corners = []
    heat = 0
    for at, temperature in enumerate(temperatures):
        if at > 0:
            heat += abs(sum([heat_between(body, temperature, temperatures[at - 1]) for body in bodies]))
        corners.append((heat, temperature))
        held = abs(sum([heat_at(body, temperature) for body in bodies]))
        if held > 0:
            heat += held
            corners.append((heat, temperature))
    return tuple(corners)


def length_of(line):
    return line[-1][0] if line else 0


def piece_of(line, left, right):
    """Return the neighboring corners of a line between whose heats two unlike heats lie."""
    for corner, following in zip(line, line[1:]):
        if corner[0] <= left and right <= following[0]:
            return (corner, following)
    return None


def temperature_at(piece, heat):
    (from_heat, low), (to_heat, high) = piece
    return ratio(low * (to_heat - heat) + high * (heat - from_heat), to_heat - from_heat)

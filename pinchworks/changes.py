"""Problems that are mirrored, moved, joined and cut."""

from pinchworks.checks import MOST_BOXES, MOST_DEGREES, MOST_STREAMS, check_level, check_problem, is_temperature
from pinchworks.errors import OtherGap, OutOfRange, TooMany


def mirrored(problem):
    """Return the problem with all temperatures upside down; what was given off is taken in."""
    check_problem(problem)
    streams, boxes, gap = problem
    some = tuple([(MOST_DEGREES - start, MOST_DEGREES - goal, rate) for start, goal, rate in streams])
    return (some, tuple([(MOST_DEGREES - temperature, -heat) for temperature, heat in boxes]), gap)


def moved_by(problem, degrees):
    """Return the problem with a number of degrees added to all temperatures."""
    check_problem(problem)
    check_level(degrees)
    streams, boxes, gap = problem
    some = tuple([(start + degrees, goal + degrees, rate) for start, goal, rate in streams])
    others = tuple([(temperature + degrees, heat) for temperature, heat in boxes])
    temperatures = [degree for start, goal, _ in some for degree in (start, goal)]
    temperatures += [temperature for temperature, _ in others]
    if not all([is_temperature(temperature) for temperature in temperatures]):
        raise OutOfRange(f"a temperature would not stay from 0 to {MOST_DEGREES}")
    return (some, others, gap)


def joined(one, other):
    """Return the problem of the streams and boxes of two problems with the same gap."""
    check_problem(one)
    check_problem(other)
    if one[2] != other[2]:
        raise OtherGap("the two problems have unlike gaps")
    for at, most in enumerate((MOST_STREAMS, MOST_BOXES)):
        if len(one[at]) + len(other[at]) > most:
            raise TooMany(most)
    return (one[0] + other[0], one[1] + other[1], one[2])


def cut_at(problem, level):
    """Return the pair of the problems above and below a level, None in place of one without streams and boxes."""
    check_problem(problem)
    check_level(level)
    streams, boxes, gap = problem
    parts = [parts_of(stream, level, gap) for stream in streams]
    sides = []
    for is_above in (True, False):
        some = tuple([pair[0 if is_above else 1] for pair in parts])
        some = tuple([(start, goal, rate) for start, goal, rate in some if start != goal])
        others = tuple([box for box in boxes if is_box_above(box, level, gap) == is_above])
        sides.append((some, others, gap) if some or others else None)
    return tuple(sides)


def parts_of(stream, level, gap):
    """Return the parts of a stream above and below a level, one of them perhaps without a difference."""
    start, goal, rate = stream
    if start > goal:
        cut = min(start, max(goal, level + gap))
        return ((start, cut, rate), (cut, goal, rate))
    cut = min(goal, max(start, level))
    return ((cut, goal, rate), (start, cut, rate))


def is_box_above(box, level, gap):
    """Return whether a box is above a level: one that takes in heat also at the level itself."""
    temperature, heat = box
    return temperature - gap > level if heat > 0 else temperature >= level

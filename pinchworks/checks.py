"""Which values are allowed where several modules take them."""

from pinchworks.errors import BadBoxes, BadFlag, BadGap, BadLevel, BadProblem, BadStreams, HasBoxes, HeatError

MOST_STREAMS = 6
MOST_BOXES = 4
MOST_DEGREES = 1000
MOST_RATE = 100
MOST_BOX_HEAT = 10000
MOST_GAP = 100


def is_integer(value):
    return isinstance(value, int) and not isinstance(value, bool)


def is_within(value, low, high):
    return is_integer(value) and low <= value <= high


def is_row(value, least, most):
    """Return whether a value is a tuple of at least and at most so many things."""
    return isinstance(value, tuple) and least <= len(value) <= most


def is_temperature(value):
    return is_within(value, 0, MOST_DEGREES)


def is_stream(value):
    if not is_row(value, 3, 3):
        return False
    start, goal, rate = value
    if not (is_temperature(start) and is_temperature(goal) and is_within(rate, 1, MOST_RATE)):
        return False
    return start != goal


def is_box(value):
    if not is_row(value, 2, 2):
        return False
    temperature, heat = value
    return is_temperature(temperature) and is_within(heat, -MOST_BOX_HEAT, MOST_BOX_HEAT) and heat != 0


def is_threshold(value):
    """Return whether a value is a pair (level, is_open), as papers of the heating name them."""
    return is_row(value, 2, 2) and is_integer(value[0]) and isinstance(value[1], bool)


def check_streams(streams):
    if not is_row(streams, 0, MOST_STREAMS):
        raise BadStreams(None)
    for index, stream in enumerate(streams):
        if not is_stream(stream):
            raise BadStreams(index)


def check_boxes(boxes):
    if not is_row(boxes, 0, MOST_BOXES):
        raise BadBoxes(None)
    for index, box in enumerate(boxes):
        if not is_box(box):
            raise BadBoxes(index)


def check_gap(gap):
    if not is_within(gap, 0, MOST_GAP):
        raise BadGap(f"a gap is an integer from 0 to {MOST_GAP}")


def check_problem(problem):
    if not is_row(problem, 3, 3):
        raise BadProblem("a problem is a triple of streams, boxes and a gap")
    streams, boxes, gap = problem
    check_streams(streams)
    check_boxes(boxes)
    check_gap(gap)
    if not streams and not boxes:
        raise BadProblem("a problem has at least one stream or box")


def is_problem(value):
    try:
        check_problem(value)
    except HeatError:
        return False
    return True


def check_boxless(problem):
    check_problem(problem)
    if problem[1]:
        raise HasBoxes("only a problem without boxes is allowed here")


def check_level(level):
    if not is_integer(level):
        raise BadLevel("a level is an integer")


def check_flag(flag):
    if not isinstance(flag, bool):
        raise BadFlag("only True and False are allowed here")

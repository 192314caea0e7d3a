"""What is left of a problem after a match at the hot ends of two streams, and what that costs."""

from math import lcm

from pinchworks.bodies import bodies_of, heating_of, is_body
from pinchworks.checks import MOST_GAP, check_boxless, is_within
from pinchworks.errors import BadLoad, BadMatch
from pinchworks.loading import heats_of
from pinchworks.storing import gap_curve

MOST_LOAD = 100000


def rest_after(problem, hot, cold, load):
    """Return the problem that is left, or None if nothing is left or a difference of temperatures is too small."""
    check_passed(problem, hot, cold, load)
    rest = rest_of(problem, hot, cold, load)
    return None if rest is None or not rest[0] else rest


def penalty(problem, hot, cold, load):
    """Return by how much the heating grows, or None if a difference of temperatures is too small."""
    check_passed(problem, hot, cold, load)
    return growth_of(problem, hot, cold, load)


def best_match(problem):
    """Return the first triple (hot, cold, load) with the greatest load that costs nothing, or None."""
    check_boxless(problem)
    bodies = bodies_of(problem)
    numbers = list(range(len(bodies)))
    best = None
    for hot in [number for number in numbers if is_body(number, bodies, True)]:
        for cold in [number for number in numbers if is_body(number, bodies, False)]:
            load = most_free(problem, hot, cold)
            if load > 0 and (best is None or load > best[2]):
                best = (hot, cold, load)
    return best


def free_gap(problem):
    """Return the greatest gap without heating, or None if there is heating without a gap."""
    # With a greater gap nothing needs less heating.
    free = len([heating for heating in gap_curve(problem, MOST_GAP) if heating == 0])
    return free - 1 if free > 0 else None


def check_passed(problem, hot, cold, load):
    """Check a problem without boxes, the numbers of a hot and of a cold stream, and a load for both."""
    check_boxless(problem)
    bodies = bodies_of(problem)
    if not is_body(hot, bodies, True) or not is_body(cold, bodies, False):
        raise BadMatch("the number of a hot stream and that of a cold one are needed")
    heats = heats_of(problem[0])
    if not is_within(load, 1, min(MOST_LOAD, heats[hot], heats[cold])):
        raise BadLoad("a load is at least 1 and at most the heat of either stream")
    if any([load % problem[0][number][2] != 0 for number in (hot, cold)]):
        raise BadLoad("a load is a multiple of both rates")


def rest_of(problem, hot, cold, load):
    """Return the problem that is left, perhaps without streams, or None if a difference is too small."""
    streams, boxes, gap = problem
    start, hot_goal, hot_rate = streams[hot]
    cold_start, goal, cold_rate = streams[cold]
    new_start, new_goal = start - load // hot_rate, goal - load // cold_rate
    if min(start - goal, new_start - new_goal) < gap:
        return None
    changed = {hot: (new_start, hot_goal, hot_rate), cold: (cold_start, new_goal, cold_rate)}
    rest = [changed.get(number, stream) for number, stream in enumerate(streams)]
    return (tuple([stream for stream in rest if stream[0] != stream[1]]), boxes, gap)


def growth_of(problem, hot, cold, load):
    rest = rest_of(problem, hot, cold, load)
    return None if rest is None else heating_of(bodies_of(rest)) - heating_of(bodies_of(problem))


def most_free(problem, hot, cold):
    """Return the greatest load of a pair that costs nothing, 0 if there is none.

    What a load costs never falls as the load grows, and once a difference of
    temperatures is too small, it is too small for all greater loads.
    """
    heats = heats_of(problem[0])
    step = lcm(problem[0][hot][2], problem[0][cold][2])
    low, high = 0, min(heats[hot], heats[cold]) // step
    while low < high:
        middle = (low + high + 1) // 2
        if growth_of(problem, hot, cold, middle * step) == 0:
            low = middle
        else:
            high = middle - 1
    return low * step

"""Structures: networks without their loads, the best loads for them, papers of these, and weak corners."""

from pinchworks.checks import check_boxless, is_row, is_within
from pinchworks.choices import all_choices
from pinchworks.errors import BadStructure, BadSwings
from pinchworks.loading import any_loading, best_loading, conditions_of, heats_of, is_of
from pinchworks.networks import HOT, OUTSIDE, is_join
from pinchworks.ratios import NOTHING, is_amount_row, is_at_most, is_ratio, is_ratio_row, minus, times, total

MOST_PAIRS = 10
MOST_SWING = 50


def best_loads(problem, structure):
    """Return a pair (heating, loads), or None if there are no loads."""
    loads, _, _ = checked_loading(problem, structure)
    return None if loads is None else (brought_in(structure, loads), tuple(loads))


def load_paper(problem, structure):
    """Return a triple (found, u, w) that shows the least heating, or that there are no loads."""
    loads, u, worths = checked_loading(problem, structure)
    w = [(NOTHING, NOTHING) for _ in structure]
    conditions = conditions_of(problem[0], problem[2], structure)
    for at in range(0, len(conditions), 2):
        index, _, _ = conditions[at]
        w[index] = (worths[at], worths[at + 1])
    return (loads is not None, tuple(u), tuple(w))


def shows_loads(problem, structure, value):
    loads, _, _ = checked_loading(problem, structure)
    if loads is None:
        return value is None
    many = len(structure)
    if not is_row(value, 2, 2) or not is_ratio(value[0]) or not is_amount_row(value[1], many):
        return False
    for number, heat in enumerate(heats_of(problem[0])):
        if total([load for pair, load in zip(structure, value[1]) if is_of(pair, number)]) != (heat, 1):
            return False
    for _, factors, limit in conditions_of(problem[0], problem[2], structure):
        if not is_at_most(weighed(value[1], factors), (limit, 1)):
            return False
    return value[0] == brought_in(structure, value[1]) and value[0] == brought_in(structure, loads)


def shows_paper(problem, structure, value):
    loads, _, _ = checked_loading(problem, structure)
    streams, _, gap = problem
    if not is_row(value, 3, 3) or not isinstance(value[0], bool) or not is_ratio_row(value[1], len(streams)):
        return False
    found, u, w = value
    if found != (loads is not None) or not is_worth_row(w, structure):
        return False
    conditions = conditions_of(streams, gap, structure)
    # The two conditions of a pair follow each other, just as its two worths do.
    worths = [worth for (hot, cold), pair in zip(structure, w) if OUTSIDE not in (hot, cold) for worth in pair]
    for index, pair in enumerate(structure):
        gained = total([one for number, one in enumerate(u) if is_of(pair, number)])
        spent = weighed(worths, [factors[index] for _, factors, _ in conditions])
        most = 1 if found and pair[HOT] == OUTSIDE else 0
        if not is_at_most(minus(gained, spent), (most, 1)):
            return False
    shown = minus(weighed(u, heats_of(streams)), weighed(worths, [limit for _, _, limit in conditions]))
    return shown == brought_in(structure, loads) if found else shown[0] > 0


def weak_corner(problem, structure, swings):
    """Return the smallest tuple of starts at ends of their ranges for which there are no loads, or None."""
    check_structure(problem, structure)
    streams, _, gap = problem
    check_swings(streams, swings)
    ranges = [sorted(set([start - swing, start + swing])) for (start, _, _), swing in zip(streams, swings)]
    for starts in all_choices(ranges):
        moved = [(start, goal, rate) for start, (_, goal, rate) in zip(starts, streams)]
        if any_loading(moved, gap, structure)[0] is None:
            return starts
    return None


def check_structure(problem, structure):
    """Check a problem without boxes, and then a structure for it."""
    check_boxless(problem)
    if not is_row(structure, 0, MOST_PAIRS):
        raise BadStructure(None)
    for index, pair in enumerate(structure):
        if not is_row(pair, 2, 2) or not is_join(pair[0], pair[1], problem[0]):
            raise BadStructure(index)


def check_swings(streams, swings):
    if not is_row(swings, len(streams), len(streams)):
        raise BadSwings("swings are a tuple of one integer for each stream")
    for swing, (start, goal, _) in zip(swings, streams):
        if not is_within(swing, 0, min(MOST_SWING, abs(start - goal) - 1)):
            raise BadSwings(f"a swing is an integer from 0 to {MOST_SWING}, smaller than what its stream changes by")


def checked_loading(problem, structure):
    """Return the triple (loads or None, u, worths of conditions) after checking both arguments."""
    check_structure(problem, structure)
    return best_loading(problem[0], problem[2], structure)


def brought_in(structure, loads):
    """Return the sum of all loads from outside."""
    return total([load for (hot, _), load in zip(structure, loads) if hot == OUTSIDE])


def weighed(ratios, factors):
    """Return the sum of some ratios times their factors."""
    return total([times(one, factor) for one, factor in zip(ratios, factors)])


def is_worth_row(value, structure):
    """Return whether a value has two ratios from 0 on for each pair, both 0 for a pair with the outside."""
    if not is_row(value, len(structure), len(structure)) or not all([is_amount_row(pair, 2) for pair in value]):
        return False
    return all([pair == (NOTHING, NOTHING) for pair, join in zip(value, structure) if OUTSIDE in join])

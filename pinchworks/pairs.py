"""Pairs of hot and cold streams on one side of a level, or a block of streams that cannot be paired."""

from pinchworks.bodies import bodies_of
from pinchworks.checks import check_boxless, check_flag, check_level, is_integer, is_row


def level_pairs(problem, level, is_above):
    """Return pairs (first, second), one for each first stream, or None if there are none."""
    firsts, seconds = checked_sides(problem, level, is_above)
    pairs, _ = paired(firsts, seconds)
    return pairs


def level_block(problem, level, is_above):
    """Return first streams for which there are too few second ones, or None if all can be paired."""
    firsts, seconds = checked_sides(problem, level, is_above)
    _, block = paired(firsts, seconds)
    return block


def shows_pairs(problem, level, is_above, value):
    firsts, seconds = checked_sides(problem, level, is_above)
    pairs, _ = paired(firsts, seconds)
    if pairs is None:
        return value is None
    if not isinstance(value, tuple) or not all([is_fitting(pair, firsts, seconds) for pair in value]):
        return False
    used = [second for _, second in value]
    # The first ones stand in ascending order in their dict.
    return [first for first, _ in value] == list(firsts) and len(set(used)) == len(used)


def shows_block(problem, level, is_above, value):
    firsts, seconds = checked_sides(problem, level, is_above)
    _, block = paired(firsts, seconds)
    if block is None:
        return value is None
    if not is_row(value, 1, len(firsts)) or not all([is_integer(first) and first in firsts for first in value]):
        return False
    if any([first >= following for first, following in zip(value, value[1:])]):
        return False
    lowest = min([firsts[first] for first in value])
    return len([rate for rate in seconds.values() if rate >= lowest]) < len(value)


def checked_sides(problem, level, is_above):
    """Return the first and the second streams as dicts from their numbers to their rates."""
    check_boxless(problem)
    check_level(level)
    check_flag(is_above)
    firsts, seconds = {}, {}
    for number, (upper, lower, amount) in enumerate(bodies_of(problem)):
        meets = lower <= level < upper if is_above else lower < level <= upper
        if meets and (amount > 0) == is_above:
            firsts[number] = abs(amount)
        elif meets:
            seconds[number] = abs(amount)
    return (firsts, seconds)


def paired(firsts, seconds):
    """Return the pair (pairs, block), one of both None."""
    wanting = by_rates(firsts)
    offered = by_rates(seconds)
    pairs = []
    for at, first in enumerate(wanting):
        # All that could serve this first stream or a greater one stand ahead in the row of the second ones.
        if at == len(offered) or seconds[offered[at]] < firsts[first]:
            return (None, tuple(sorted(wanting[:at + 1])))
        pairs.append((first, offered[at]))
    return (tuple(sorted(pairs)), None)


def by_rates(rates):
    """Return the numbers of streams, those with the greatest rates first."""
    return sorted(rates, key=lambda number: -rates[number])


def is_fitting(value, firsts, seconds):
    """Return whether a value is a pair of a first stream and a second one that serves it."""
    if not is_row(value, 2, 2) or not all([is_integer(number) for number in value]):
        return False
    first, second = value
    return first in firsts and second in seconds and seconds[second] >= firsts[first]

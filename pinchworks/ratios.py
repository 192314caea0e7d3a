"""Ratios: pairs (top, bottom) of integers without a common divisor, the bottom positive."""

from math import gcd

from pinchworks.checks import is_integer, is_row

NOTHING = (0, 1)


def ratio(top, bottom):
    """Return the ratio of two integers, the second one positive."""
    shared = gcd(top, bottom)
    return (top // shared, bottom // shared)


def is_ratio(value):
    if not is_row(value, 2, 2) or not all([is_integer(part) for part in value]):
        return False
    return value[1] > 0 and gcd(value[0], value[1]) == 1


def is_ratio_row(value, many):
    """Return whether a value is a tuple of so many ratios."""
    return is_row(value, many, many) and all([is_ratio(part) for part in value])


def is_amount_row(value, many):
    """Return whether a value is a tuple of so many ratios from 0 on."""
    return is_ratio_row(value, many) and all([top >= 0 for top, _ in value])


def is_apart(upper, lower, gap):
    """Return whether one ratio less another is at least the integer gap."""
    return upper[0] * lower[1] - lower[0] * upper[1] >= gap * upper[1] * lower[1]


def is_at_most(one, other):
    return one[0] * other[1] <= other[0] * one[1]


def plus(one, other):
    return ratio(one[0] * other[1] + other[0] * one[1], one[1] * other[1])


def times(one, whole):
    """Return a ratio times an integer."""
    return ratio(one[0] * whole, one[1])


def minus(one, other):
    return plus(one, times(other, -1))


def total(ratios):
    found = NOTHING
    for one in ratios:
        found = plus(found, one)
    return found


def least(ratios):
    """Return the least one of some ratios, at least one."""
    found = ratios[0]
    for one in ratios:
        if is_at_most(one, found):
            found = one
    return found

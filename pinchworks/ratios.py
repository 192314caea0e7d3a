"""Ratios: pairs (top, bottom) of integers without a common divisor, the bottom positive."""

from math import gcd


def ratio(top, bottom):
    """Return the ratio of two integers, the second one positive."""
    shared = gcd(top, bottom)
    return (top // shared, bottom // shared)


def is_apart(upper, lower, gap):
    """Return whether one ratio less another is at least the integer gap."""
    return upper[0] * lower[1] - lower[0] * upper[1] >= gap * upper[1] * lower[1]

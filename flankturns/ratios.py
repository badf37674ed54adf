"""Ratios: pairs of integers without a common divisor, the second one positive."""

from math import gcd


def lowest(number, parts):
    """The ratio of two integers, the second one positive."""
    common = gcd(number, parts)
    return number // common, parts // common


def added(one, other):
    """The sum of two ratios."""
    return lowest(one[0] * other[1] + other[0] * one[1], one[1] * other[1])

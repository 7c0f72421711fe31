"""Exact ratios and chances ([A2]): pairs (N, M) in lowest terms, M above 0."""

from math import gcd


def is_ratio(value):
    """Whether a value, whatever it is, is a RATIO."""
    if type(value) is not tuple or len(value) != 2:
        return False
    above, below = value
    return type(above) is int and type(below) is int and below > 0 and gcd(above, below) == 1


def is_chance(value):
    """Whether a value, whatever it is, is a chance: a RATIO from 0 to 1."""
    return is_ratio(value) and 0 <= value[0] <= value[1]


def are_chances(value):
    """Whether a value, whatever it is, is a tuple of chances that add up to 1."""
    if type(value) is not tuple or not all(is_chance(one) for one in value):
        return False
    return total(value) == (1, 1)


def ratio(above, below):
    """The RATIO above / below, below being above 0."""
    common = gcd(above, below)
    return (above // common, below // common)


def plus(one, other):
    """The sum of two RATIOs."""
    return ratio(one[0] * other[1] + other[0] * one[1], one[1] * other[1])


def total(ratios):
    """The sum of RATIOs, 0 for none."""
    found = (0, 1)
    for one in ratios:
        found = plus(found, one)
    return found


def times(one, other):
    """The product of two RATIOs."""
    return ratio(one[0] * other[0], one[1] * other[1])


def is_at_most(one, other):
    """Whether a RATIO is not above another one."""
    return one[0] * other[1] <= other[0] * one[1]

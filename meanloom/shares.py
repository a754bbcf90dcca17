"""Shares: pairs of a top and a bottom in lowest terms, the bottom above 0."""

from meanloom.checks import check_share, common_measure, is_number
from meanloom.errors import BadShare


def lowest(top, bottom):
    """The share worth the top by the bottom, which isn't 0."""
    measure = common_measure(top, bottom)
    if bottom < 0:
        measure = -measure
    return top // measure, bottom // measure


def lowest_by_power(top, base, power):
    """The share worth the top by so many bases, above 0, multiplied."""
    bottom = 1
    # Base by base the numbers to measure stay small, and what is left has no common measure.
    for step in range(power):
        measure = common_measure(top, base)
        top, bottom = top // measure, bottom * (base // measure)
    return top, bottom


def common_multiple(one, other):
    """The least number into which both, above 0, go."""
    return one * (other // common_measure(one, other))


def common_bottom(pairs):
    """The least number into which all bottoms go, 1 of none."""
    told = 1
    for top, bottom in pairs:
        told = common_multiple(told, bottom)
    return told


def tops_over(pairs, bottom):
    """The tops that the pairs have over a common bottom."""
    return [top * (bottom // under) for top, under in pairs]


def check_shares(one, other):
    """Refuse if either is no share."""
    check_share(one)
    check_share(other)


def share(top, bottom):
    """The share worth the top by the bottom."""
    if not is_number(top) or not is_number(bottom):
        raise BadShare("a share is made of two numbers")
    if bottom == 0:
        raise BadShare("0 is no bottom")
    return lowest(top, bottom)


def plus(one, other):
    """Both shares added."""
    check_shares(one, other)
    return lowest(one[0] * other[1] + other[0] * one[1], one[1] * other[1])


def minus(one, other):
    """The first share less the second."""
    check_shares(one, other)
    return lowest(one[0] * other[1] - other[0] * one[1], one[1] * other[1])


def times(one, other):
    """Both shares multiplied."""
    check_shares(one, other)
    return lowest(one[0] * other[0], one[1] * other[1])


def over(one, other):
    """The first share by the second, which isn't 0."""
    check_shares(one, other)
    if other[0] == 0:
        raise BadShare("nothing is parted by 0")
    return lowest(one[0] * other[1], one[1] * other[0])


def order(one, other):
    """1 if the first share is worth more, 0 if as much, -1 if less."""
    check_shares(one, other)
    first, second = one[0] * other[1], other[0] * one[1]
    if first > second:
        return 1
    return -1 if first < second else 0

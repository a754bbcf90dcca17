"""Means of one letter once, twice and so on led to sums of a kind, and back.

A number put before the letter multiplies the n-th mean and the n-th sum of
each kind by its n-th power. By a fitting number, the scale, all become whole.
"""

from meanloom.checks import check_kind, check_means, common_measure
from meanloom.shares import lowest_by_power


def scale_of(shares):
    """A number into whose n-th power the bottom of the n-th share goes."""
    scale = 1
    for place, (top, bottom) in enumerate(shares, start=1):
        left = bottom
        for step in range(place):
            left = left // common_measure(left, scale)
        scale = scale * left
    return scale


def scaled(shares, scale):
    """The n-th share times the n-th power of its scale, a whole number."""
    told, power = [], 1
    for top, bottom in shares:
        power = power * scale
        told.append(top * (power // bottom))
    return told


def shares_of(numbers, scale):
    """The shares that so scaled are these numbers."""
    return [lowest_by_power(number, scale, place) for place, number in enumerate(numbers, start=1)]


def choices(many):
    """In how many ways 0, 1 and so on of so many things are chosen."""
    row = [1]
    for step in range(many):
        row = [early + late for early, late in zip([0] + row, row + [0])]
    return row


def spread(one, other):
    """For each count, both lists' numbers at places that make it up, multiplied and added."""
    return [sum([one[at] * other[count - at] for at in range(count + 1)]) for count in range(len(one))]


def gap_means(means):
    """For a first group of 1, 2 and so on, what the gaps behind its things have."""
    many = len(means)
    told, gaps = [], [1] + [0] * (many - 1)
    for size in range(1, many + 1):
        gaps = spread(gaps, means)
        told.append(gaps[many - size])
    return told


def outside_means(means, kind):
    """For a first group of 1, 2 and so on, what the things outside it have.

    The means, 1 ahead of them, are all those of fewer things than there are.
    """
    if kind == "nested":
        return gap_means(means)
    if kind == "rows":
        return means[::-1]
    return [ways * told for ways, told in zip(choices(len(means) - 1), means[::-1])]


def grouped(sums, means, kind):
    """By each size of the group of the first thing: its sum and the means outside it, added."""
    return sum([one * other for one, other in zip(sums, outside_means(means, kind))])


def whole_means(sums, kind):
    """The means of whole sums."""
    means = [1]
    for step in range(len(sums)):
        means.append(grouped(sums, means, kind))
    return means[1:]


def whole_sums(means, kind):
    """The sums of whole means."""
    sums, known = [], [1]
    for told in means:
        # The sums known so far are those of all first groups but the one that holds everything.
        sums.append(told - grouped(sums, known, kind))
        known.append(told)
    return sums


def sums_from(means, kind):
    """The sums of a kind that have these means."""
    check_means(means)
    check_kind(kind)
    scale = scale_of(means)
    return shares_of(whole_sums(scaled(means, scale), kind), scale)


def means_from(sums, kind):
    """The means that these sums of a kind have."""
    check_means(sums)
    check_kind(kind)
    scale = scale_of(sums)
    return shares_of(whole_means(scaled(sums, scale), kind), scale)


def between(sums, kind, other):
    """The sums of another kind that have the same means."""
    check_means(sums)
    check_kind(kind)
    check_kind(other)
    scale = scale_of(sums)
    means = whole_means(scaled(sums, scale), kind)
    return shares_of(whole_sums(means, other), scale)

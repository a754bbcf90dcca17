"""Two things apart in the sense of a kind: the means of their words and of their total."""

from meanloom.checks import check_kind, check_means, check_word
from meanloom.errors import TooFew
from meanloom.groupings import groupings
from meanloom.series import scale_of, scaled, shares_of, whole_means, whole_sums
from meanloom.shares import common_multiple, lowest_by_power
from meanloom.tables import product


def check_both(one, other):
    """Refuse if either thing isn't told by means."""
    check_means(one)
    check_means(other)


def check_enough(things, word):
    """Refuse if a thing has fewer means than it stands in the word."""
    for thing, means in enumerate(things):
        if len(means) < word.count(thing):
            raise TooFew("fewer means of a thing than it stands in the word")


def is_unmixed(group, word):
    """Whether the places of a group have one thing alone."""
    return all([word[place] == word[group[0]] for place in group])


def unmixed_sum(sums, word, kind):
    """Over all groupings without a mixed group, the products of the things' sums, added."""
    told = 0
    for grouping in groupings(len(word), kind):
        if all([is_unmixed(group, word) for group in grouping]):
            told += product([sums[word[group[0]]][len(group) - 1] for group in grouping])
    return told


def word_mean(one, other, word, kind):
    """The mean of a word of two things apart in the sense of a kind."""
    check_both(one, other)
    check_word(word, 2)
    check_kind(kind)
    check_enough([one, other], word)
    # Means beyond those that the word needs would only make the scales greater.
    needed = [one[:word.count(0)], other[:word.count(1)]]
    scales = [scale_of(means) for means in needed]
    sums = [whole_sums(scaled(means, scale), kind) for means, scale in zip(needed, scales)]
    top, bottom = lowest_by_power(unmixed_sum(sums, word, kind), scales[0], word.count(0))
    top, further = lowest_by_power(top, scales[1], word.count(1))
    return top, bottom * further


def added(one, other, kind):
    """The means of the total of two things apart in the sense of a kind."""
    check_both(one, other)
    check_kind(kind)
    many = min(len(one), len(other))
    scale = common_multiple(scale_of(one[:many]), scale_of(other[:many]))
    first = whole_sums(scaled(one[:many], scale), kind)
    second = whole_sums(scaled(other[:many], scale), kind)
    return shares_of(whole_means([early + late for early, late in zip(first, second)], kind), scale)

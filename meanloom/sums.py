"""Sums of words by a kind of groupings, and the sum of products of words."""

from meanloom.checks import MOST_THINGS, check_kind, check_table, check_word
from meanloom.errors import BadWord
from meanloom.groupings import groupings, mark
from meanloom.shares import lowest_by_power
from meanloom.tables import all_weights, letters_of, product, spelled, weighed


def group_mean(table, word, group):
    """The mean of the letters at a group's places, times all weights for each place."""
    told = weighed(table, [word[place] for place in group])
    # This far it holds all weights once.
    return told * product([all_weights(table)] * (len(group) - 1))


def marked_sum(table, word, kind):
    """The sum of a word of one letter at least; nothing is looked at."""
    means, total = {}, 0
    for grouping in groupings(len(word), kind):
        for group in grouping:
            if tuple(group) not in means:
                means[tuple(group)] = group_mean(table, word, group)
        total += mark(grouping, kind) * product([means[tuple(group)] for group in grouping])
    # Each place has brought in all weights once, in whichever group it stood.
    return lowest_by_power(total, all_weights(table), len(word))


def check_full_word(value, letters):
    """Refuse what is no word of one letter at least."""
    check_word(value, letters)
    if len(value) == 0:
        raise BadWord("a word of no letters")


def sum_of(table, word, kind):
    """The sum of a word of one letter at least by a kind."""
    check_table(table)
    check_full_word(word, letters_of(table))
    check_kind(kind)
    return marked_sum(table, word, kind)


def check_words(value, letters):
    """Refuse what is no list of 1 to 6 words of one letter at least, 6 letters at most together."""
    if not isinstance(value, list) or not 1 <= len(value) <= MOST_THINGS:
        raise BadWord("no list of 1 to 6 words")
    for word in value:
        check_full_word(word, letters)
    if sum([len(word) for word in value]) > MOST_THINGS:
        raise BadWord("more than 6 letters together")


def product_sum(table, words):
    """The sum by all groupings of the products of some words."""
    check_table(table)
    check_words(words, letters_of(table))
    products = [(weight, [spelled(numbers, word) for word in words]) for weight, numbers in table]
    return marked_sum(products, list(range(len(words))), "all")

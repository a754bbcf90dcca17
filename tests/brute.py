"""What the document says, told the longest way, to hold the program against."""

import functools
import itertools
import math
from fractions import Fraction

KINDS = ["all", "nested", "rows"]


def every_grouping(many):
    """All groupings, made by putting the last thing into each group or alone."""
    if many == 0:
        return [[]]
    told = []
    for less in every_grouping(many - 1):
        for at in range(len(less)):
            told.append([group + [many - 1] if place == at else list(group) for place, group in enumerate(less)])
        told.append([list(group) for group in less] + [[many - 1]])
    return told


def homes(grouping):
    """For each thing the count of its group."""
    many = sum(len(group) for group in grouping)
    return [[at for at, group in enumerate(grouping) if thing in group][0] for thing in range(many)]


def groups_cross(one, other):
    """As the document says it, with a in either group."""
    for first, second in [(one, other), (other, one)]:
        for a, c in itertools.combinations(first, 2):
            for b, d in itertools.combinations(second, 2):
                if a < b < c < d:
                    return True
    return False


def of_kind(grouping, kind):
    """As the document says it."""
    if kind == "nested":
        return not any(groups_cross(one, other) for one, other in itertools.combinations(grouping, 2))
    if kind == "rows":
        return all(group == list(range(group[0], group[0] + len(group))) for group in grouping)
    return True


def every_of_kind(many, kind):
    return sorted([grouping for grouping in every_grouping(many) if of_kind(grouping, kind)], key=homes)


def inside(one, other):
    """As the document says it."""
    return all(any(set(group) <= set(larger) for larger in other) for group in one)


@functools.lru_cache(maxsize=None)
def marked(many, kind):
    """Pairs of a grouping and its mark, by what the marks must add up to."""
    every = sorted(every_of_kind(many, kind), key=len)
    marks = []
    for grouping in every:
        wider = sum(told for told, other in zip(marks, every) if inside(grouping, other))
        marks.append((1 if len(grouping) <= 1 else 0) - wider)
    return list(zip(every, marks))


def pair(worth):
    """A share of what Python's own fractions say."""
    return worth.numerator, worth.denominator


def pairs(worths):
    """Shares of what Python's own fractions say."""
    return [pair(Fraction(worth)) for worth in worths]


def worths(shares):
    """What shares are worth, as Python's own fractions."""
    return [Fraction(*share) for share in shares]


def mean_of(table, word):
    """The weights times the products, by all weights."""
    total = sum(Fraction(weight) for weight, numbers in table)
    return sum(weight * math.prod(numbers[letter] for letter in word) for weight, numbers in table) / total


def word_sum(table, word, kind):
    """The marks times the products of the groups' means, added."""
    told = Fraction(0)
    for grouping, mark in marked(len(word), kind):
        told += mark * math.prod(mean_of(table, [word[place] for place in group]) for group in grouping)
    return told


def letter_means(table, letter, most):
    """The means of one letter once, twice and so on, so many."""
    return [mean_of(table, [letter] * many) for many in range(1, most + 1)]


class Dice:
    """Numbers that look unlike one another, the same in each run."""

    def __init__(self, seed):
        self.state = seed * 7919 + 17

    def below(self, limit):
        """A number from 0 to below the limit."""
        self.state = (self.state * 6364136223846793005 + 1442695040888963407) % 2 ** 64
        return (self.state >> 24) % limit

    def number(self, size):
        """A number from minus the size to the size."""
        return self.below(2 * size + 1) - size

    def table(self, rows, letters, size=5, weight=4):
        """A table of so many rows and letters."""
        return [(1 + self.below(weight), [self.number(size) for letter in range(letters)]) for row in range(rows)]

    def word(self, many, letters):
        """A word of so many letters."""
        return [self.below(letters) for place in range(many)]

    def shares(self, many, size=9):
        """A list of so many shares."""
        return pairs([Fraction(self.number(size), 1 + self.below(size)) for place in range(many)])


def shapes():
    """Tables of few and many rows, of each count of letters, of numbers small and great."""
    dice = Dice(1)
    told = [[(1, [0])], [(7, [-3])], [(10 ** 50, [10 ** 60 + 7, -(10 ** 61)])]]
    for rows, letters in itertools.product([1, 2, 3, 6], [1, 2, 3, 4]):
        told.append(dice.table(rows, letters))
    for letters in [1, 2, 3, 4]:
        told.append(dice.table(40, letters, size=9, weight=9))
        told.append(dice.table(3, letters, size=10 ** 9, weight=10 ** 9))
    return told

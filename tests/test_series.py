"""Promise 11, and what promise 1 says of rows of means."""

import itertools
import math
import unittest
from fractions import Fraction

from meanloom.errors import BadKind, BadMeans
from meanloom.groupings import how_many
from meanloom.series import between, means_from, sums_from
from meanloom.sums import sum_of
from meanloom.tables import mean
from tests.brute import KINDS, Dice, every_of_kind, pair, pairs, worths
from tests.strange import GREAT, HUGE, not_kinds, not_means, stays, told_new

GREAT_SHARES = [
    (GREAT, 2), (-1, GREAT), (2 ** 200, 3 ** 100), (GREAT + 1, GREAT), (-GREAT, 10 ** 40 + 1), (5, 12), (0, 1),
    (3 ** 50, 2 ** 99), (-7, 36), (10 ** 50, 3),
]


def rows_of_shares():
    """Lists of 0 to 10 shares."""
    dice = Dice(31)
    told = [dice.shares(many) for many in range(11)] + [dice.shares(10) for step in range(5)]
    told += [pairs([dice.number(9) for place in range(10)]), [(0, 1)] * 10, [(1, 1)] * 10, [(-1, 2)] * 10]
    told += [[(0, 1)] * 9 + [(1, 3)], [(1, 2), (1, 4), (1, 8)], [(1, 8), (1, 4), (1, 2)], [(1, 6), (1, 4), (1, 9), (1, 10)]]
    # bottoms that hold a number oftener than their place
    told += [[(1, 2), (1, 8), (-1, 64), (3, 128)], [(2, 3), (1, 27), (5, 243), (1, 9)], [(1, 1), (1, 4), (1, 32), (1, 2)]]
    return told + [GREAT_SHARES, GREAT_SHARES[::-1]]


def mean_by_groupings(sums, many, kind):
    """The products of the sums of as many as the groups have things, over all groupings, added."""
    return sum(math.prod(sums[len(group) - 1] for group in grouping) for grouping in every_of_kind(many, kind))


class SeriesTest(unittest.TestCase):
    def check_shares(self, told, many):
        self.assertIs(type(told), list)
        self.assertEqual(len(told), many)
        for one in told:
            self.assertIs(type(one), tuple)
            self.assertEqual([type(part) for part in one], [int, int])
            self.assertGreater(one[1], 0)
            self.assertEqual(math.gcd(*one), 1)

    def test_there_and_back_again(self):
        for row in rows_of_shares():
            for kind in KINDS:
                with self.subTest(row=row, kind=kind):
                    sums, means = stays(self, sums_from, row, kind), stays(self, means_from, row, kind)
                    self.check_shares(sums, len(row))
                    self.check_shares(means, len(row))
                    self.assertEqual(means_from(sums, kind), row)
                    self.assertEqual(sums_from(means, kind), row)

    def test_beginnings_lead_to_beginnings(self):
        for row in rows_of_shares():
            for kind in KINDS:
                sums, means = sums_from(row, kind), means_from(row, kind)
                for many in range(len(row) + 1):
                    self.assertEqual(sums_from(row[:many], kind), sums[:many])
                    self.assertEqual(means_from(row[:many], kind), means[:many])

    def test_each_mean_by_all_groupings(self):
        for row in rows_of_shares():
            for kind in KINDS:
                means = means_from(row, kind)
                sums = worths(sums_from(row, kind))
                for many in range(1, min(len(row), 6) + 1):
                    self.assertEqual(means[many - 1], pair(mean_by_groupings(worths(row), many, kind)))
                    self.assertEqual(row[many - 1], pair(mean_by_groupings(sums, many, kind)))

    def test_more_things_than_a_grouping_may_have(self):
        row = Dice(32).shares(8)
        for kind in KINDS:
            means = means_from(row, kind)
            for many in [7, 8]:
                self.assertEqual(means[many - 1], pair(mean_by_groupings(worths(row), many, kind)))

    def test_ones_as_sums(self):
        for kind in KINDS:
            for many in range(11):
                counts = [(how_many(things, kind), 1) for things in range(1, many + 1)]
                self.assertEqual(means_from([(1, 1)] * many, kind), counts)
                self.assertEqual(sums_from(counts, kind), [(1, 1)] * many)

    def test_one_sum_alone(self):
        for kind, counts in [("all", [1, 3, 15, 105, 945]), ("nested", [1, 2, 5, 14, 42]), ("rows", [1, 1, 1, 1, 1])]:
            sums = [(0, 1), (1, 1)] + [(0, 1)] * 8
            means = pairs([number for count in counts for number in [0, count]])
            self.assertEqual(means_from(sums, kind), means)
            self.assertEqual(sums_from(means, kind), sums)
            powers = pairs([Fraction(-2, 3) ** many for many in range(1, 11)])
            self.assertEqual(means_from([(-2, 3)] + [(0, 1)] * 9, kind), powers)

    def test_by_hand(self):
        self.assertEqual(sums_from([(0, 1), (1, 1), (0, 1), (1, 1), (0, 1), (1, 1)], "all"), pairs([0, 1, 0, -2, 0, 16]))
        self.assertEqual(sums_from([(0, 1), (1, 1), (0, 1), (1, 1), (0, 1), (1, 1)], "nested"), pairs([0, 1, 0, -1, 0, 2]))
        self.assertEqual(sums_from([(1, 2), (1, 2), (1, 2)], "all"), [(1, 2), (1, 4), (0, 1)])
        self.assertEqual(sums_from([(1, 2), (1, 2), (1, 2)], "rows"), [(1, 2), (1, 4), (1, 8)])
        self.assertEqual(means_from([(1, 2), (1, 3), (1, 5)], "all"), pairs([Fraction(1, 2), Fraction(7, 12), Fraction(33, 40)]))
        self.assertEqual(means_from([(1, 2), (1, 3), (1, 5)], "rows"), pairs([Fraction(1, 2), Fraction(7, 12), Fraction(79, 120)]))
        self.assertEqual(sums_from(kind="all", means=[]), [])
        self.assertEqual(means_from(kind="rows", sums=[(3, 1)]), [(3, 1)])

    def test_as_the_sums_of_a_table(self):
        table = Dice(33).table(4, 2)
        for letter in [0, 1]:
            means = [mean(table, [letter] * many) for many in range(1, 7)]
            for kind in KINDS:
                sums = [sum_of(table, [letter] * many, kind) for many in range(1, 7)]
                self.assertEqual(sums_from(means, kind), sums)
                self.assertEqual(means_from(sums, kind), means)

    def test_very_great_numbers(self):
        self.assertEqual(sums_from([(0, 1), (HUGE, 1), (0, 1), (HUGE ** 2, 1)], "nested"), [(0, 1), (HUGE, 1), (0, 1), (-(HUGE ** 2), 1)])
        self.assertEqual(means_from([(1, HUGE)] * 2, "rows"), [(1, HUGE), (HUGE + 1, HUGE ** 2)])

    def test_what_is_told_is_new(self):
        for row in rows_of_shares()[:14]:
            for kind in KINDS:
                told_new(self, sums_from, row, kind)
                told_new(self, means_from, row, kind)
        told_new(self, sums_from, [(1, 2)], "rows")

    def test_refuses_what_are_no_means_first(self):
        for asked in [sums_from, means_from]:
            for row in not_means():
                for kind in KINDS + ["none", None]:
                    with self.subTest(asked=asked.__name__, row=id(row), kind=kind):
                        with self.assertRaises(BadMeans):
                            asked(row, kind)

    def test_refuses_what_is_no_kind(self):
        for asked in [sums_from, means_from]:
            for kind in not_kinds():
                for row in [[], [(1, 2)], [(1, 2)] * 10]:
                    with self.subTest(asked=asked.__name__, row=row, kind=id(kind)):
                        with self.assertRaises(BadKind):
                            asked(row, kind)


class BetweenTest(unittest.TestCase):
    def test_the_same_means(self):
        for row in rows_of_shares():
            for kind, other in itertools.product(KINDS, KINDS):
                with self.subTest(row=row, kind=kind, other=other):
                    told = stays(self, between, row, kind, other)
                    self.assertIs(type(told), list)
                    self.assertEqual(means_from(told, other), means_from(row, kind))
                    self.assertEqual(between(told, other, kind), row)

    def test_to_itself(self):
        for row in rows_of_shares():
            for kind in KINDS:
                self.assertEqual(between(row, kind, kind), row)

    def test_by_a_third_one(self):
        for row in rows_of_shares()[:20]:
            for kind, third, other in itertools.product(KINDS, KINDS, KINDS):
                self.assertEqual(between(between(row, kind, third), third, other), between(row, kind, other))

    def test_beginnings_lead_to_beginnings(self):
        row = Dice(34).shares(10)
        for kind, other in itertools.product(KINDS, KINDS):
            for many in range(11):
                self.assertEqual(between(row[:many], kind, other), between(row, kind, other)[:many])

    def test_by_hand(self):
        pattern = pairs([0, 1, 0, 0, 0, 0])
        self.assertEqual(between(pattern, "all", "nested"), pairs([0, 1, 0, 1, 0, 4]))
        self.assertEqual(between(pattern, "nested", "all"), pairs([0, 1, 0, -1, 0, 5]))
        self.assertEqual(between(pattern, "nested", "rows"), pairs([0, 1, 0, 1, 0, 2]))
        self.assertEqual(between(pattern, "rows", "nested"), pairs([0, 1, 0, -1, 0, 2]))
        self.assertEqual(between(pattern, "rows", "all"), pairs([0, 1, 0, -2, 0, 16]))
        self.assertEqual(between(other="rows", kind="all", sums=pattern), pairs([0, 1, 0, 2, 0, 10]))
        self.assertEqual(between([], "all", "rows"), [])

    def test_what_is_told_is_new(self):
        for row in rows_of_shares()[:11]:
            for kind, other in itertools.product(KINDS, KINDS):
                told_new(self, between, row, kind, other)

    def test_refuses_what_are_no_sums_first(self):
        for row in not_means():
            for kind, other in [("all", "rows"), ("none", "rows"), ("all", "none"), (None, None), ("rows", "rows")]:
                with self.subTest(row=id(row), kind=kind, other=other):
                    with self.assertRaises(BadMeans):
                        between(row, kind, other)

    def test_refuses_if_either_is_no_kind(self):
        for bad in not_kinds():
            for good in KINDS:
                for kind, other in [(bad, good), (good, bad), (bad, bad)]:
                    for row in [[], [(1, 2)], [(1, 2)] * 10]:
                        with self.subTest(row=row, kind=id(kind), other=id(other)):
                            with self.assertRaises(BadKind):
                                between(row, kind, other)


if __name__ == "__main__":
    unittest.main()

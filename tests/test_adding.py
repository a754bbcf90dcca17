"""Promises 12 and 13, and what promise 1 says of things apart."""

import itertools
import math
import unittest
from fractions import Fraction

from meanloom.adding import added, word_mean
from meanloom.errors import BadKind, BadMeans, BadWord, TooFew
from meanloom.series import means_from, sums_from
from meanloom.shares import plus
from meanloom.sums import sum_of
from meanloom.tables import beside, made, mean
from tests.brute import KINDS, Dice, every_of_kind, letter_means, pair, pairs, worths
from tests.strange import GREAT, HUGE, not_kinds, not_means, not_words, stays, told_new

GREAT_MEANS = [(GREAT, 2), (-1, GREAT), (2 ** 200, 3 ** 100), (GREAT + 1, GREAT), (-GREAT, 10 ** 40 + 1), (5, 12)]
NOUGHTS = [(0, 1)] * 6


def every_word():
    """All words of 0 to 6 noughts and ones."""
    return [list(word) for many in range(7) for word in itertools.product([0, 1], repeat=many)]


def two_things():
    """Pairs of lists of 6 means."""
    dice = Dice(41)
    told = [(dice.shares(6), dice.shares(6)) for step in range(2)]
    told += [(pairs(letter_means(dice.table(3, 1), 0, 6)), pairs(letter_means(dice.table(2, 1), 0, 6)))]
    return told + [(NOUGHTS, dice.shares(6)), (GREAT_MEANS, GREAT_MEANS[::-1])]


def sums_by_groupings(means, kind):
    """The sums of means: what the groupings of more than one group leave over, as the document says it."""
    sums = []
    for many, told in enumerate(means, start=1):
        smaller = [grouping for grouping in every_of_kind(many, kind) if len(grouping) > 1]
        sums.append(told - sum(math.prod(sums[len(group) - 1] for group in grouping) for grouping in smaller))
    return sums


def unmixed(many, word, kind):
    """All groupings of the kind of which each group has places of one thing alone."""
    every = every_of_kind(many, kind)
    return [told for told in every if all(len({word[place] for place in group}) == 1 for group in told)]


def runs_of(word):
    """Pairs of a thing and how often it follows itself."""
    return [(thing, len(list(run))) for thing, run in itertools.groupby(word)]


class WordMeanTest(unittest.TestCase):
    def check_share(self, told):
        self.assertIs(type(told), tuple)
        self.assertEqual([type(part) for part in told], [int, int])
        self.assertGreater(told[1], 0)
        self.assertEqual(math.gcd(*told), 1)

    def test_over_all_groupings_of_one_thing_each(self):
        for kind in KINDS:
            apart = [(word, unmixed(len(word), word, kind)) for word in every_word()]
            for one, other in two_things():
                sums = [sums_by_groupings(worths(means), kind) for means in [one, other]]
                for word, every in apart:
                    with self.subTest(one=one, other=other, word=word, kind=kind):
                        asked = sum(
                            math.prod(sums[word[group[0]]][len(group) - 1] for group in grouping) for grouping in every
                        )
                        told = stays(self, word_mean, one, other, word, kind)
                        self.assertEqual(told, pair(Fraction(asked)))
                        self.check_share(told)

    def test_by_all_the_means_of_as_many_of_each(self):
        for one, other in two_things():
            for word in every_word():
                noughts, ones = [Fraction(1)] + worths(one), [Fraction(1)] + worths(other)
                told = noughts[word.count(0)] * ones[word.count(1)]
                self.assertEqual(word_mean(one, other, word, "all"), pair(told))

    def test_by_rows_the_means_of_its_runs(self):
        for one, other in two_things():
            means = [worths(one), worths(other)]
            for word in every_word():
                told = math.prod([means[thing][many - 1] for thing, many in runs_of(word)], start=Fraction(1))
                self.assertEqual(word_mean(one, other, word, "rows"), pair(told))

    def test_by_nested_runs_less_their_means_have_no_mean(self):
        for one, other in two_things():
            means = [worths(one), worths(other)]
            for word in every_word()[1:]:
                runs = runs_of(word)
                told = Fraction(0)
                # The product of all runs less their means, multiplied out.
                for kept in itertools.product([True, False], repeat=len(runs)):
                    left = [thing for (thing, many), stay in zip(runs, kept) if stay for step in range(many)]
                    out = [-means[thing][many - 1] for (thing, many), stay in zip(runs, kept) if not stay]
                    told += math.prod(out) * Fraction(*word_mean(one, other, left, "nested"))
                self.assertEqual(told, 0)

    def test_one_thing_alone_has_its_own_means(self):
        for one, other in two_things():
            for kind in KINDS:
                self.assertEqual([word_mean(one, other, [0] * many, kind) for many in range(1, 7)], one)
                self.assertEqual([word_mean(one, other, [1] * many, kind) for many in range(1, 7)], other)
                self.assertEqual(word_mean(one, other, [], kind), (1, 1))

    def test_things_the_other_way_round(self):
        for one, other in two_things()[1:4]:
            for word in every_word():
                for kind in KINDS:
                    turned = [1 - thing for thing in word]
                    self.assertEqual(word_mean(other, one, turned, kind), word_mean(one, other, word, kind))

    def test_as_two_tables_beside_one_another(self):
        dice = Dice(42)
        first, second = dice.table(3, 1), dice.table(4, 1)
        one, other = pairs(letter_means(first, 0, 6)), pairs(letter_means(second, 0, 6))
        for word in every_word():
            self.assertEqual(word_mean(one, other, word, "all"), mean(beside(first, second), word))

    def test_by_hand(self):
        one, other = [(1, 2), (3, 1)], [(5, 1), (7, 1)]
        self.assertEqual([word_mean(one, other, [0, 1, 0, 1], kind) for kind in KINDS], [(21, 1), (141, 2), (25, 4)])
        self.assertEqual([word_mean(one, other, [0, 1, 0], kind) for kind in KINDS], [(15, 1), (15, 1), (5, 4)])
        self.assertEqual([word_mean(one, other, [0, 0, 1, 1], kind) for kind in KINDS], [(21, 1)] * 3)
        self.assertEqual(word_mean(kind="rows", word=[1, 0, 1], other=other, one=one), (25, 2))
        self.assertEqual(word_mean([(HUGE, 1)], [(1, HUGE)], [1, 0], "nested"), (1, 1))

    def test_just_as_many_means_as_needed(self):
        for one, other in two_things()[:2]:
            for word in every_word():
                for kind in KINDS:
                    first, second = one[:word.count(0)], other[:word.count(1)]
                    told = word_mean(one, other, word, kind)
                    self.assertEqual(word_mean(first, second, word, kind), told)
                    self.assertEqual(word_mean(first, other, word, kind), told)
                    self.assertEqual(word_mean(one + [(9, 4)] * 4, second, word, kind), told)

    def test_one_mean_fewer(self):
        for word in every_word():
            for kind in KINDS:
                just = [[(1, 2)] * word.count(0), [(1, 3)] * word.count(1)]
                for thing in [0, 1]:
                    if word.count(thing) > 0:
                        fewer = list(just)
                        fewer[thing] = just[thing][:-1]
                        fewer[1 - thing] = just[1 - thing] + [(1, 5)] * 4
                        with self.assertRaises(TooFew):
                            word_mean(*fewer, word, kind)
                if len(word) > 0:
                    with self.assertRaises(TooFew):
                        word_mean([], [], word, kind)
                self.assertEqual(word_mean([], [], [], kind), (1, 1))

    def test_refuses_what_are_no_means_first(self):
        for bad in not_means():
            for one, other in [(bad, [(1, 2)]), ([(1, 2)], bad), (bad, bad), (bad, []), ([], bad)]:
                for word, kind in [([0, 1], "all"), ([2], "all"), ([0], "none"), (None, None), ([1, 1], "rows")]:
                    with self.subTest(one=id(one), other=id(other), word=word, kind=kind):
                        with self.assertRaises(BadMeans):
                            word_mean(one, other, word, kind)

    def test_refuses_what_is_no_word_then(self):
        for word in not_words(2):
            for means, kind in [([(1, 2)] * 10, "all"), ([], "rows"), ([], "none"), ([(1, 2)] * 6, None)]:
                with self.subTest(word=id(word), kind=kind):
                    with self.assertRaises(BadWord):
                        word_mean(means, means, word, kind)

    def test_refuses_what_is_no_kind_before_too_few(self):
        for kind in not_kinds():
            for means in [[], [(1, 2)], [(1, 2)] * 10]:
                for word in [[], [0], [1, 0], [0] * 6, [1, 1, 1, 1, 1, 1]]:
                    with self.subTest(kind=id(kind), word=word):
                        with self.assertRaises(BadKind):
                            word_mean(means, means, word, kind)


class AddedTest(unittest.TestCase):
    def lists(self):
        """Lists of 0 to 10 means."""
        dice = Dice(43)
        told = [dice.shares(many) for many in range(11)] + [NOUGHTS, [(0, 1)] * 10, GREAT_MEANS]
        return told + [pairs(letter_means(dice.table(3, 1), 0, 10)), [(0, 1)] * 9 + [(1, 3)]]

    def test_the_sums_are_added(self):
        for one, other in itertools.product(self.lists(), repeat=2):
            many = min(len(one), len(other))
            for kind in KINDS:
                with self.subTest(one=one, other=other, kind=kind):
                    told = stays(self, added, one, other, kind)
                    sums = [plus(*both) for both in zip(sums_from(one, kind), sums_from(other, kind))]
                    self.assertEqual(sums_from(told, kind), sums)
                    self.assertEqual(told, means_from(sums, kind))
                    self.assertIs(type(told), list)
                    self.assertEqual(len(told), many)
                    self.assertEqual([type(mean) for mean in told], [tuple] * many)

    def test_the_means_are_those_of_all_words_added(self):
        for one, other in two_things():
            for kind in KINDS:
                told = added(one, other, kind)
                for many in range(1, 7):
                    words = [list(word) for word in itertools.product([0, 1], repeat=many)]
                    means = [Fraction(*word_mean(one, other, word, kind)) for word in words]
                    self.assertEqual(told[many - 1], pair(sum(means)))

    def test_by_the_sums_of_groupings(self):
        for one, other in two_things():
            for kind in KINDS:
                sums = [sums_by_groupings(worths(means), kind) for means in [one, other]]
                both = [first + second for first, second in zip(*sums)]
                self.assertEqual(sums_by_groupings(worths(added(one, other, kind)), kind), both)

    def test_either_way_round(self):
        for one, other in itertools.product(self.lists(), repeat=2):
            for kind in KINDS:
                self.assertEqual(added(one, other, kind), added(other, one, kind))

    def test_three_things_in_any_turn(self):
        dice = Dice(44)
        for lengths in [(10, 10, 10), (6, 9, 7), (3, 0, 10), (1, 2, 3)]:
            things = [dice.shares(many) for many in lengths]
            for kind in KINDS:
                told = added(added(things[0], things[1], kind), things[2], kind)
                self.assertEqual(len(told), min(lengths))
                for one, other, third in itertools.permutations(things):
                    self.assertEqual(added(added(one, other, kind), third, kind), told)
                    self.assertEqual(added(one, added(other, third, kind), kind), told)

    def test_noughts_change_nothing(self):
        for means in self.lists():
            for kind in KINDS:
                self.assertEqual(added(means, [(0, 1)] * 10, kind), means)
                self.assertEqual(added([(0, 1)] * len(means), means, kind), means)
                self.assertEqual(added(means, [], kind), [])
                self.assertEqual(added([], means, kind), [])

    def test_beginnings_lead_to_beginnings(self):
        dice = Dice(45)
        one, other = dice.shares(10), dice.shares(10)
        for kind in KINDS:
            told = added(one, other, kind)
            for many, more in itertools.product(range(11), range(11)):
                self.assertEqual(added(one[:many], other[:more], kind), told[:min(many, more)])

    def test_a_fixed_number_is_put_to_it(self):
        table = Dice(46).table(4, 1)
        means = pairs(letter_means(table, 0, 10))
        moved = pairs(letter_means(made(table, [[1, -3]]), 0, 10))
        for kind in ["all", "nested"]:
            self.assertEqual(added(means, pairs([(-3) ** many for many in range(1, 11)]), kind), moved)

    def test_as_two_tables_beside_one_another(self):
        dice = Dice(47)
        first, second = dice.table(3, 1), dice.table(4, 1)
        one, other = pairs(letter_means(first, 0, 10)), pairs(letter_means(second, 0, 10))
        total = made(beside(first, second), [[1, 1, 0]])
        self.assertEqual(added(one, other, "all"), pairs(letter_means(total, 0, 10)))
        self.assertEqual(sums_from(added(one, other, "all"), "all")[3], sum_of(total, [0] * 4, "all"))

    def test_by_hand(self):
        fair = pairs([0, 1, 0, 1, 0, 1])
        self.assertEqual(added(fair, fair, "all"), pairs([0, 2, 0, 8, 0, 32]))
        self.assertEqual(added(fair, fair, "nested"), pairs([0, 2, 0, 6, 0, 20]))
        self.assertEqual(added(fair, fair, "rows"), pairs([0, 2, 0, 4, 0, 8]))
        self.assertEqual(added(kind="all", other=[(1, 2), (5, 1)], one=[(1, 3)]), [(5, 6)])
        self.assertEqual(added([(HUGE, 1)], [(-HUGE, 1)], "rows"), [(0, 1)])

    def test_what_is_told_is_new(self):
        for means in self.lists():
            for kind in KINDS:
                told_new(self, added, means, means, kind)
                told_new(self, added, means, [(0, 1)] * 10, kind)
                told_new(self, added, [(0, 1)] * 10, means, kind)

    def test_refuses_what_are_no_means_first(self):
        for bad in not_means():
            for one, other in [(bad, [(1, 2)]), ([(1, 2)], bad), (bad, bad), (bad, []), ([], bad)]:
                for kind in KINDS + ["none", None]:
                    with self.subTest(one=id(one), other=id(other), kind=kind):
                        with self.assertRaises(BadMeans):
                            added(one, other, kind)

    def test_refuses_what_is_no_kind(self):
        for kind in not_kinds():
            for one, other in [([], []), ([(1, 2)], []), ([(1, 2)] * 10, [(1, 3)] * 10)]:
                with self.subTest(kind=id(kind), one=one):
                    with self.assertRaises(BadKind):
                        added(one, other, kind)


if __name__ == "__main__":
    unittest.main()

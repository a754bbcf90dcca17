"""Promises 3 to 6, and what promise 1 says of groupings."""

import itertools
import unittest

from meanloom.errors import BadCount, BadGrouping, BadKind
from meanloom.groupings import groupings, how_many, is_kind, joined, mark, turned_in, within
from tests.brute import KINDS, every_grouping, every_of_kind, groups_cross, homes, inside, of_kind
from tests.strange import not_groupings, not_kinds, not_numbers, stays, told_new


def bell(most):
    """How many groupings there are, by choosing who is with the last thing."""
    told = [1]
    for many in range(most):
        total, choices = 0, 1
        for chosen in range(many + 1):
            total += choices * told[chosen]
            choices = choices * (many - chosen) // (chosen + 1)
        told.append(total)
    return told


def catalan(most):
    """How many nested groupings there are, by where the first group's next thing stands."""
    told = [1]
    for many in range(most):
        told.append(sum(told[at] * told[many - at] for at in range(many + 1)))
    return told


class ListedTest(unittest.TestCase):
    def test_all_are_listed_once_in_the_told_order(self):
        for many in range(7):
            for kind in KINDS:
                with self.subTest(many=many, kind=kind):
                    self.assertEqual(groupings(many, kind), every_of_kind(many, kind))

    def test_homes_rise(self):
        for many in range(7):
            for kind in KINDS:
                told = [homes(grouping) for grouping in groupings(many, kind)]
                self.assertTrue(all(early < late for early, late in zip(told, told[1:])))

    def test_by_hand(self):
        for kind in KINDS:
            self.assertEqual(groupings(0, kind), [[]])
            self.assertEqual(groupings(1, kind), [[[0]]])
            self.assertEqual(groupings(2, kind), [[[0, 1]], [[0], [1]]])
        three = [[[0, 1, 2]], [[0, 1], [2]], [[0, 2], [1]], [[0], [1, 2]], [[0], [1], [2]]]
        self.assertEqual(groupings(3, "all"), three)
        self.assertEqual(groupings(3, "nested"), three)
        self.assertEqual(groupings(3, "rows"), [three[0], three[1], three[3], three[4]])
        self.assertEqual([told for told in groupings(4, "all") if told not in groupings(4, "nested")], [[[0, 2], [1, 3]]])

    def test_only_lists_of_lists_of_numbers(self):
        for kind in KINDS:
            for grouping in groupings(5, kind):
                self.assertIs(type(grouping), list)
                for group in grouping:
                    self.assertIs(type(group), list)
                    self.assertEqual({type(thing) for thing in group}, {int})

    def test_told_lists_may_be_changed(self):
        for many in range(6):
            for kind in KINDS:
                told_new(self, groupings, many, kind)

    def test_refuses_bad_counts_first(self):
        for asked, beyond in [(groupings, 7), (how_many, 201)]:
            for many in not_numbers() + [-1, beyond, beyond + 1, -(10 ** 5000), 10 ** 5000]:
                for kind in KINDS + ["none", None]:
                    with self.subTest(asked=asked.__name__, many=id(many), kind=kind):
                        with self.assertRaises(BadCount):
                            asked(many, kind)

    def test_refuses_bad_kinds(self):
        for asked in [groupings, how_many]:
            for kind in not_kinds():
                for many in [0, 1, 6]:
                    with self.subTest(asked=asked.__name__, many=many, kind=id(kind)):
                        with self.assertRaises(BadKind):
                            asked(many, kind)

    def test_names_of_arguments(self):
        self.assertEqual(groupings(kind="rows", many=2), [[[0, 1]], [[0], [1]]])
        self.assertEqual(how_many(kind="rows", many=3), 4)


class HowManyTest(unittest.TestCase):
    def test_as_many_as_are_listed(self):
        for many in range(7):
            for kind in KINDS:
                self.assertEqual(how_many(many, kind), len(groupings(many, kind)))

    def test_of_0_to_200_things(self):
        every, nested = bell(200), catalan(200)
        for many in range(201):
            self.assertEqual(how_many(many, "all"), every[many])
            self.assertEqual(how_many(many, "nested"), nested[many])
            self.assertEqual(how_many(many, "rows"), 2 ** max(many - 1, 0))

    def test_by_hand(self):
        self.assertEqual([how_many(0, kind) for kind in KINDS], [1, 1, 1])
        self.assertEqual([how_many(1, kind) for kind in KINDS], [1, 1, 1])
        self.assertEqual([how_many(6, kind) for kind in KINDS], [203, 132, 32])
        self.assertEqual([how_many(10, kind) for kind in KINDS], [115975, 16796, 512])
        self.assertEqual(how_many(200, "rows"), 2 ** 199)

    def test_a_number_is_told(self):
        for many in [0, 1, 6, 200]:
            for kind in KINDS:
                self.assertIs(type(how_many(many, kind)), int)


class IsKindTest(unittest.TestCase):
    def test_each_grouping_by_each_kind(self):
        for many in range(7):
            for grouping in every_grouping(many):
                for kind in KINDS:
                    self.assertIs(stays(self, is_kind, grouping, kind), of_kind(grouping, kind))

    def test_by_hand(self):
        crossed, around, rows = [[0, 2], [1, 3]], [[0, 3], [1, 2]], [[0], [1, 2], [3]]
        self.assertEqual([is_kind(crossed, kind) for kind in KINDS], [True, False, False])
        self.assertEqual([is_kind(around, kind) for kind in KINDS], [True, True, False])
        self.assertEqual([is_kind(rows, kind) for kind in KINDS], [True, True, True])
        self.assertEqual([is_kind([], kind) for kind in KINDS], [True, True, True])
        self.assertEqual([is_kind([[0, 4], [1, 3, 5], [2]], kind) for kind in KINDS], [True, False, False])

    def test_refuses_what_is_no_grouping_first(self):
        for asked in [is_kind, mark]:
            for grouping in not_groupings():
                for kind in KINDS + ["none", None]:
                    with self.subTest(asked=asked.__name__, grouping=id(grouping), kind=kind):
                        with self.assertRaises(BadGrouping):
                            asked(grouping, kind)

    def test_refuses_bad_kinds(self):
        for asked in [is_kind, mark]:
            for kind in not_kinds():
                for grouping in [[], [[0]], [[0, 2], [1, 3]]]:
                    with self.subTest(asked=asked.__name__, grouping=grouping, kind=id(kind)):
                        with self.assertRaises(BadKind):
                            asked(grouping, kind)

    def test_names_of_arguments(self):
        self.assertTrue(is_kind(kind="rows", grouping=[[0]]))
        self.assertEqual(mark(kind="rows", grouping=[[0], [1]]), -1)


class WithinTest(unittest.TestCase):
    def test_all_pairs(self):
        for many in range(6):
            every = every_grouping(many)
            for one, other in itertools.product(every, every):
                self.assertIs(stays(self, within, one, other), inside(one, other))

    def test_by_hand(self):
        self.assertTrue(within([], []))
        self.assertTrue(within([[0], [1], [2]], [[0, 2], [1]]))
        self.assertFalse(within([[0, 2], [1]], [[0], [1], [2]]))
        self.assertFalse(within([[0, 1], [2]], [[0, 2], [1]]))
        self.assertTrue(within([[0, 1], [2]], [[0, 1], [2]]))
        self.assertTrue(within([[0, 2], [1, 3], [4], [5]], [[0, 2, 5], [1, 3, 4]]))
        self.assertFalse(within(other=[[0], [1]], one=[[0, 1]]))


class JoinedTest(unittest.TestCase):
    def test_all_pairs(self):
        for many in range(5):
            every = every_grouping(many)
            for one, other in itertools.product(every, every):
                around = [told for told in every if inside(one, told) and inside(other, told)]
                least = [told for told in around if all(inside(told, wider) for wider in around)]
                self.assertEqual([stays(self, joined, one, other)], least)

    def test_pairs_of_many_things(self):
        every = every_grouping(6)
        for one, other in zip(every, reversed(every)):
            told = joined(one, other)
            self.assertTrue(inside(one, told) and inside(other, told))
            for wider in every:
                if inside(one, wider) and inside(other, wider):
                    self.assertTrue(inside(told, wider))

    def test_by_hand(self):
        self.assertEqual(joined([], []), [])
        self.assertEqual(joined([[0, 1], [2, 3]], [[0], [1, 2], [3]]), [[0, 1, 2, 3]])
        self.assertEqual(joined([[0, 2], [1], [3]], [[0], [1, 3], [2]]), [[0, 2], [1, 3]])
        self.assertEqual(joined([[0, 5], [1, 4], [2, 3]], [[0], [1], [2, 5], [3], [4]]), [[0, 2, 3, 5], [1, 4]])
        self.assertEqual(joined([[0], [1], [2]], [[0], [1], [2]]), [[0], [1], [2]])

    def test_what_is_told_is_new(self):
        for one, other in itertools.product(every_grouping(3), every_grouping(3)):
            told_new(self, joined, one, other)
        same = [[0, 1], [2]]
        told_new(self, joined, same, same)

    def test_refuses_what_is_no_grouping(self):
        for asked in [within, joined]:
            for grouping in not_groupings():
                for good in [[], [[0]], [[0, 1]]]:
                    for one, other in [(grouping, good), (good, grouping), (grouping, grouping)]:
                        with self.subTest(asked=asked.__name__, one=id(one), other=id(other)):
                            with self.assertRaises(BadGrouping):
                                asked(one, other)

    def test_refuses_groupings_of_unlike_many_things(self):
        for asked in [within, joined]:
            for few, more in itertools.permutations(range(7), 2):
                for one in [groupings(few, "rows")[0], groupings(few, "rows")[-1]]:
                    for other in [groupings(more, "rows")[0], groupings(more, "rows")[-1]]:
                        with self.assertRaises(BadGrouping):
                            asked(one, other)

    def test_names_of_arguments(self):
        self.assertEqual(joined(other=[[0], [1]], one=[[0, 1]]), [[0, 1]])


def in_a_row(things, gaps):
    """Groups of things and of gaps by their places in the row of both."""
    return [[2 * thing for thing in group] for group in things], [[2 * gap + 1 for gap in group] for group in gaps]


class TurnedInTest(unittest.TestCase):
    def test_as_the_document_says(self):
        for many in range(6):
            candidates = [gaps for gaps in every_grouping(many) if of_kind(gaps, "nested")]
            for grouping in candidates:
                fit = []
                for gaps in candidates:
                    first, second = in_a_row(grouping, gaps)
                    if not any(groups_cross(one, other) for one, other in itertools.product(first, second)):
                        fit.append(gaps)
                fewest = min(len(gaps) for gaps in fit)
                self.assertEqual([gaps for gaps in fit if len(gaps) == fewest], [stays(self, turned_in, grouping)])

    def test_no_two_groups_cross(self):
        for many in range(7):
            for grouping in every_of_kind(many, "nested"):
                first, second = in_a_row(grouping, turned_in(grouping))
                for one, other in itertools.combinations(first + second, 2):
                    self.assertFalse(groups_cross(one, other))

    def test_both_together_have_one_group_more_than_things(self):
        for many in range(1, 7):
            for grouping in every_of_kind(many, "nested"):
                self.assertEqual(len(grouping) + len(turned_in(grouping)), many + 1)
        self.assertEqual(turned_in([]), [])

    def test_turned_in_twice(self):
        for many in range(7):
            for grouping in every_of_kind(many, "nested"):
                less = [sorted((thing - 1) % many for thing in group) for group in grouping]
                self.assertEqual(turned_in(turned_in(grouping)), sorted(less))

    def test_by_hand(self):
        self.assertEqual(turned_in([[0]]), [[0]])
        self.assertEqual(turned_in([[0, 1, 2]]), [[0], [1], [2]])
        self.assertEqual(turned_in([[0], [1], [2]]), [[0, 1, 2]])
        self.assertEqual(turned_in([[0, 1], [2]]), [[0], [1, 2]])
        self.assertEqual(turned_in([[0], [1, 2]]), [[0, 2], [1]])
        self.assertEqual(turned_in([[0, 2], [1]]), [[0, 1], [2]])
        self.assertEqual(turned_in(grouping=[[0, 5], [1, 3], [2], [4]]), [[0, 3, 4], [1, 2], [5]])

    def test_what_is_told_is_new(self):
        for grouping in every_of_kind(4, "nested"):
            told_new(self, turned_in, grouping)

    def test_refuses_what_is_no_grouping_or_not_nested(self):
        for grouping in not_groupings():
            with self.subTest(grouping=id(grouping)):
                with self.assertRaises(BadGrouping):
                    turned_in(grouping)
        for many in range(7):
            for grouping in every_grouping(many):
                if not of_kind(grouping, "nested"):
                    with self.assertRaises(BadGrouping):
                        turned_in(grouping)


class MarkTest(unittest.TestCase):
    def test_marks_add_up(self):
        for many in range(7):
            for kind in KINDS:
                every = every_of_kind(many, kind)
                marks = [stays(self, mark, grouping, kind) for grouping in every]
                for grouping in every:
                    total = sum(told for told, wider in zip(marks, every) if inside(grouping, wider))
                    self.assertEqual(total, 1 if len(grouping) <= 1 else 0)

    def test_by_hand(self):
        for kind in KINDS:
            self.assertEqual(mark([], kind), 1)
            self.assertEqual(mark([[0]], kind), 1)
            self.assertEqual(mark([[0, 1]], kind), 1)
            self.assertEqual(mark([[0], [1]], kind), -1)
        ones = [[thing] for thing in range(6)]
        self.assertEqual([mark(ones, kind) for kind in KINDS], [-120, -42, -1])
        self.assertEqual([mark([[0], [1], [2]], kind) for kind in KINDS], [2, 2, 1])
        self.assertEqual([mark([[0, 2], [1], [3]], kind) for kind in ["all", "nested"]], [2, 1])
        self.assertEqual(mark([[0, 2], [1, 3]], "all"), -1)

    def test_a_number_is_told(self):
        for kind in KINDS:
            for grouping in every_of_kind(4, kind):
                self.assertIs(type(mark(grouping, kind)), int)

    def test_refuses_a_grouping_of_another_kind(self):
        for many in range(7):
            for grouping in every_grouping(many):
                for kind in KINDS:
                    if not of_kind(grouping, kind):
                        with self.assertRaises(BadGrouping):
                            mark(grouping, kind)


if __name__ == "__main__":
    unittest.main()

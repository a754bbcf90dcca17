"""What promise 1 says over the whole program: for every function of it, nothing handed in is changed or kept."""

import copy
import inspect
import unittest

from meanloom import adding, answers, binding, errors, groupings, series, shares, squares, sums, tables
from meanloom.answers import Answer, Apart, Below, Mixed, Squares
from tests.strange import GREAT, lists_in

LOOSE = [(1, [0, 0]), (2, [0, 1]), (2, [1, 0]), (4, [1, 1])]
BOUND = [(1, [0, 3]), (2, [1, -1]), (1, [2, 5])]
ALIKE = [0, 1]
ROW = [(1, 2), (3, 4), (5, 6)]
SQUARED = [(1, 1), (1, 2), (1, 1), (1, 2), (1, 1)]
UNSQUARED = [(1, 1), (2, 1), (3, 1)]

CASES = [
    (shares.share, (6, -4)),
    (shares.plus, ((1, 2), (1, 3))),
    (shares.minus, ((1, 2), (0, 1))),
    (shares.times, ((1, 1), (GREAT, 3))),
    (shares.over, ((1, 2), (1, 1))),
    (shares.order, ((1, 2), (1, 3))),
    (groupings.groupings, (4, "nested")),
    (groupings.groupings, (0, "all")),
    (groupings.how_many, (200, "all")),
    (groupings.is_kind, ([[0, 2], [1, 3]], "nested")),
    (groupings.mark, ([[0], [1], [2]], "nested")),
    (groupings.within, ([[0], [1], [2]], [[0, 2], [1]])),
    (groupings.joined, ([[0, 2], [1], [3]], [[0], [1, 3], [2]])),
    (groupings.joined, ([[0, 1]], [[0], [1]])),
    (groupings.turned_in, ([[0, 2], [1]],)),
    (groupings.turned_in, ([[0]],)),
    (tables.mean, (BOUND, [0, 1, 1])),
    (tables.beside, (LOOSE, BOUND)),
    (tables.beside, ([(1, ALIKE), (1, ALIKE)], [(1, ALIKE)])),
    (tables.made, (LOOSE, [[1, 0, 0], [0, 1, 0]])),
    (sums.sum_of, (BOUND, [0, 1, 0], "nested")),
    (sums.product_sum, (BOUND, [[0], [1, 0], [1]])),
    (series.sums_from, (ROW, "all")),
    (series.sums_from, ([(1, 2)], "rows")),
    (series.means_from, (ROW, "nested")),
    (series.between, (ROW, "rows", "rows")),
    (series.between, (ROW, "rows", "all")),
    (adding.word_mean, (ROW, ROW[::-1], [0, 1, 1, 0], "nested")),
    (adding.added, (ROW, ROW[:2], "rows")),
    (adding.added, (ROW, [(0, 1)] * 3, "all")),
    (binding.both_sum, (BOUND, 0, 1, 3, 2)),
    (binding.both_sum, (BOUND, 1, 0, 0, 1)),
    (binding.apart, (LOOSE, 0, 1)),
    (binding.apart, (BOUND, 1, 0)),
    (squares.steady, (SQUARED,)),
    (squares.steady, (UNSQUARED,)),
    (squares.steady, ([(0, 1)],)),
]

SHOWN = [
    (Apart, (), (LOOSE, 0, 1)),
    (Apart, (), (BOUND, 0, 1)),
    (Mixed, (1, 1), (BOUND, 0, 1)),
    (Mixed, (1, 1), (LOOSE, 1, 0)),
    (Squares, ([((1, 2), [(1, 1), (2, 1)]), ((3, 1), ROW[:2])],), (UNSQUARED,)),
    (Squares, ([((1, 2), [(1, 1), (1, 1), (1, 1)]), ((1, 2), [(1, 1), (0, 1), (1, 1)])],), (SQUARED,)),
    (Below, ([(-2, 1), (1, 1)],), (UNSQUARED,)),
    (Below, (ROW,), (SQUARED,)),
]


def form(told):
    """What is told, with answers as their name and fields."""
    return (told.__class__.__name__, vars(told)) if isinstance(told, Answer) else told


def all_lists(told):
    """All lists within what is told, those in the fields of an answer too."""
    return lists_in([list(vars(told).values())])[2:] if isinstance(told, Answer) else lists_in(told)


def spoil(value):
    """Change all lists within a value."""
    for part in lists_in(value):
        part.reverse()
        part.append("spoiled")


def public_functions(module):
    """The functions of a module that the interface of the document names."""
    told = {asked for asked, handed in CASES}
    own = [value for name, value in vars(module).items() if inspect.isfunction(value)]
    return [value for value in own if value in told and value.__module__ == module.__name__]


class WholeTest(unittest.TestCase):
    def test_every_function_is_asked(self):
        counts = [(shares, 6), (groupings, 7), (tables, 3), (sums, 2), (series, 3), (adding, 2), (binding, 2), (squares, 1)]
        for module, many in counts:
            self.assertEqual(len(public_functions(module)), many)

    def test_what_is_handed_in_stays(self):
        for asked, handed in CASES:
            with self.subTest(asked=asked.__name__, handed=handed):
                given = copy.deepcopy(handed)
                asked(*given)
                self.assertEqual(given, handed)

    def test_what_is_told_is_new(self):
        for asked, handed in CASES:
            with self.subTest(asked=asked.__name__, handed=handed):
                given = copy.deepcopy(handed)
                first, second = asked(*given), asked(*given)
                own = [id(part) for part in all_lists(first) + all_lists(second)]
                self.assertEqual(len(own), len(set(own)))
                self.assertEqual(set(own) & {id(part) for part in lists_in(given)}, set())
                if isinstance(first, Answer):
                    self.assertIsNot(first, second)

    def test_told_lists_may_be_changed(self):
        for asked, handed in CASES:
            with self.subTest(asked=asked.__name__, handed=handed):
                given = copy.deepcopy(handed)
                first = asked(*given)
                before = copy.deepcopy(form(first))
                for part in all_lists(first):
                    part.append("spoiled")
                if isinstance(first, Answer):
                    for field in vars(first):
                        setattr(first, field, None)
                self.assertEqual(given, handed)
                self.assertEqual(form(asked(*given)), before)
                self.assertEqual(form(asked(*copy.deepcopy(handed))), before)

    def test_handed_lists_may_be_changed(self):
        for asked, handed in CASES:
            with self.subTest(asked=asked.__name__, handed=handed):
                given = copy.deepcopy(handed)
                first = asked(*given)
                before = copy.deepcopy(form(first))
                spoil(given)
                self.assertEqual(form(first), before)
                self.assertEqual(form(asked(*copy.deepcopy(handed))), before)

    def test_the_same_lists_with_other_things_in_them(self):
        # Whatever is remembered must not be remembered by the list itself.
        table, means, word = copy.deepcopy(BOUND), list(UNSQUARED), [0, 1]
        asked = [
            lambda: tables.mean(table, word), lambda: sums.sum_of(table, word, "all"),
            lambda: binding.both_sum(table, 0, 1, 2, 1), lambda: form(binding.apart(table, 0, 1)),
            lambda: series.sums_from(means, "all"), lambda: adding.added(means, means, "rows"),
            lambda: adding.word_mean(means, means, word, "nested"), lambda: form(squares.steady(means)),
        ]
        before = [ask() for ask in asked]
        table[:], means[:], word[:] = copy.deepcopy(LOOSE), list(SQUARED), [1, 1, 0]
        changed = [ask() for ask in asked]
        for early, late in zip(before, changed):
            self.assertNotEqual(early, late)
        table[:], means[:], word[:] = copy.deepcopy(BOUND), list(UNSQUARED), [0, 1]
        self.assertEqual([ask() for ask in asked], before)

    def test_shows_changes_nothing_and_tells_the_same_again(self):
        for kind, fields, handed in SHOWN:
            with self.subTest(kind=kind.__name__, handed=handed):
                given, made_of = copy.deepcopy(handed), copy.deepcopy(fields)
                answer = kind(*made_of)
                before = copy.deepcopy(vars(answer))
                told = answer.shows(*given)
                self.assertIn(told, [True, False])
                self.assertEqual((given, made_of, vars(answer)), (handed, fields, before))
                self.assertIs(answer.shows(*given), told)
                spoil(given)
                spoil(made_of)
                self.assertEqual(vars(answer), before)
                self.assertIs(answer.shows(*copy.deepcopy(handed)), told)
                self.assertIs(kind(*copy.deepcopy(fields)).shows(*copy.deepcopy(handed)), told)

    def test_answers_share_no_lists_with_what_they_are_made_of(self):
        for kind, fields, handed in SHOWN:
            given = copy.deepcopy(fields)
            first, second = kind(*given), kind(*given)
            own = [id(part) for part in all_lists(first) + all_lists(second)]
            self.assertEqual(len(own), len(set(own)))
            self.assertEqual(set(own) & {id(part) for part in lists_in(given)}, set())

    def test_refusals_leave_what_is_handed_in(self):
        for asked, handed in CASES:
            for at in range(len(handed)):
                for strange in [None, True, [None], [True], ((2, 4),)]:
                    given = copy.deepcopy(handed[:at] + (strange,) + handed[at + 1:])
                    before = copy.deepcopy(given)
                    with self.subTest(asked=asked.__name__, given=given):
                        with self.assertRaises(errors.MeanError):
                            asked(*given)
                        self.assertEqual(given, before)

    def test_the_modules_of_the_interface(self):
        for name in ["Answer", "Apart", "Mixed", "Squares", "Below"]:
            self.assertTrue(inspect.isclass(getattr(answers, name)))


if __name__ == "__main__":
    unittest.main()

"""The classes of the answers, and what they show: promises 14 and 15."""

import copy
import inspect
import itertools
import unittest
from fractions import Fraction

from meanloom import answers
from meanloom.answers import Answer, Apart, Below, Mixed, Squares
from meanloom.binding import apart, both_sum
from meanloom.squares import steady
from meanloom.tables import beside
from tests.brute import Dice, letter_means, pair, pairs, worths
from tests.strange import GREAT, HUGE, stays

LOOSE = [(1, [0, 0]), (2, [0, 1]), (2, [1, 0]), (4, [1, 1])]
BOUND = [(1, [0, 0]), (2, [0, 1]), (2, [1, 0]), (5, [1, 1])]
CURVED = [(1, [-1, 1]), (1, [0, 0]), (1, [1, 1])]
LONG = [(1 + at % 3, [at, at * at % 41]) for at in range(40)]

FIELDS = [(Apart, []), (Mixed, ["many", "more"]), (Squares, ["parts"]), (Below, ["row"])]


def tables():
    """Tables of 2 to 4 letters, some letters apart, some bound."""
    dice = Dice(71)
    told = [LOOSE, BOUND, CURVED, [(1, [0, 0])], [(7, [1, 2, 3, 4])]]
    told += [dice.table(rows, letters, size=2) for rows in [2, 3, 4, 6] for letters in [2, 3, 4]]
    told += [beside(dice.table(rows, 1, size=2), dice.table(3, letters, size=1)) for rows in [2, 4] for letters in [1, 2, 3]]
    return told


def letters_of(table):
    """All pairs of unlike letters."""
    return list(itertools.permutations(range(len(table[0][1])), 2))


def numbers_of(table, letter):
    return len({numbers[letter] for weight, numbers in table})


def is_mixed(table, one, other, many, more):
    """As the document says it."""
    if not 1 <= many < numbers_of(table, one) or not 1 <= more < numbers_of(table, other):
        return False
    return both_sum(table, one, other, many, more) != (0, 1)


def means_lists():
    """Odd counts of shares, of either answer."""
    dice = Dice(72)
    told = [pairs([1] + letter_means(dice.table(3, 1), 0, many - 1)) for many in range(1, 14, 2)]
    told += [dice.shares(many) for many in range(1, 14, 2)] + [[(0, 1)] * many for many in range(1, 14, 2)]
    return told + [pairs([1, 2, 4]), pairs([1, 2, 3]), pairs([GREAT, 0, Fraction(1, GREAT)]), pairs([0, 0, -1])]


def are_squares(parts, means):
    """As the document says it."""
    size = len(means) // 2 + 1
    if not all(weight[0] > 0 and len(row) == size for weight, row in parts):
        return False
    for i, j in itertools.product(range(size), repeat=2):
        told = sum(Fraction(*weight) * Fraction(*row[i]) * Fraction(*row[j]) for weight, row in parts)
        if told != Fraction(*means[i + j]):
            return False
    return True


def is_below(row, means):
    """As the document says it."""
    size = len(means) // 2 + 1
    if len(row) != size:
        return False
    row, means = worths(row), worths(means)
    return sum(row[i] * row[j] * means[i + j] for i in range(size) for j in range(size)) < 0


class ClassesTest(unittest.TestCase):
    def test_each_stands_straight_under_answer(self):
        self.assertEqual(Answer.__bases__, (object,))
        for kind, fields in FIELDS:
            self.assertEqual(kind.__bases__, (Answer,))
        known = [value for name, value in vars(answers).items() if inspect.isclass(value)]
        self.assertEqual(known, [Answer] + [kind for kind, fields in FIELDS])

    def test_each_has_its_own_shows(self):
        for kind, fields in FIELDS:
            self.assertIn("shows", vars(kind))

    def test_fields(self):
        for kind, fields in FIELDS:
            made = kind(*[[] for field in fields])
            self.assertEqual(sorted(vars(made)), sorted(fields))
        mixed = Mixed(more=3, many=2)
        self.assertEqual((mixed.many, mixed.more), (2, 3))
        self.assertEqual(Squares(parts=[((1, 2), [(1, 1)])]).parts, [((1, 2), [(1, 1)])])
        self.assertEqual(Below(row=[(1, 2), (0, 1)]).row, [(1, 2), (0, 1)])

    def test_lists_are_copied_within_them_too(self):
        parts = [((1, 2), [(1, 1), (2, 1)]), ((3, 1), [(0, 1), (1, 1)])]
        squares = Squares(parts)
        self.assertEqual(squares.parts, parts)
        self.assertIsNot(squares.parts, parts)
        for own, handed in zip(squares.parts, parts):
            self.assertIs(type(own), tuple)
            self.assertIsNot(own[1], handed[1])
        row = [(1, 1), (2, 1)]
        below = Below(row)
        self.assertEqual(below.row, row)
        self.assertIsNot(below.row, row)
        self.assertIsNot(Squares([]).parts, Squares([]).parts)

    def test_what_was_handed_in_stays_and_is_not_kept(self):
        parts = [((1, 1), [(1, 1), (2, 1)])]
        squares = stays(self, Squares, parts)
        parts[0][1].append((5, 1))
        parts.clear()
        self.assertEqual(squares.parts, [((1, 1), [(1, 1), (2, 1)])])
        row = [(-2, 1), (1, 1)]
        below = stays(self, Below, row)
        row.clear()
        self.assertEqual(below.row, [(-2, 1), (1, 1)])
        shared = [(1, 1)]
        twice = Squares([((1, 1), shared), ((1, 1), shared)])
        self.assertIsNot(twice.parts[0][1], twice.parts[1][1])

    def test_a_field_that_is_changed_changes_nothing_handed_in(self):
        parts, row = [((1, 1), [(1, 1), (2, 1)])], [(1, 1)]
        squares, below = Squares(parts), Below(row)
        squares.parts[0][1].clear()
        squares.parts.append(None)
        below.row.clear()
        self.assertEqual(parts, [((1, 1), [(1, 1), (2, 1)])])
        self.assertEqual(row, [(1, 1)])


class LettersTest(unittest.TestCase):
    def test_what_was_asked_is_shown(self):
        for table in tables():
            for one, other in letters_of(table):
                told = apart(table, one, other)
                self.assertIs(stays(self, told.shows, table, one, other), True)
                self.assertIs(told.shows(other=other, one=one, table=table), True)

    def test_never_both(self):
        for table in tables():
            for one, other in letters_of(table):
                loose = Apart().shows(table, one, other)
                self.assertIs(loose, isinstance(apart(table, one, other), Apart))
                for many, more in itertools.product(range(5), repeat=2):
                    told = Mixed(many, more).shows(table, one, other)
                    self.assertIs(told, is_mixed(table, one, other, many, more))
                    if loose:
                        self.assertIs(told, False)

    def test_of_other_tables_and_letters(self):
        every = [(table, one, other) for table in tables() for one, other in letters_of(table)]
        told = [apart(*asked) for asked in every[:30]]
        for answer in told:
            for table, one, other in every[:60]:
                if isinstance(answer, Apart):
                    right = isinstance(apart(table, one, other), Apart)
                else:
                    right = is_mixed(table, one, other, answer.many, answer.more)
                self.assertIs(answer.shows(table, one, other), right)

    def test_by_hand(self):
        self.assertIs(Apart().shows(LOOSE, 0, 1), True)
        self.assertIs(Apart().shows(BOUND, 0, 1), False)
        self.assertIs(Apart().shows(CURVED, 1, 0), False)
        self.assertIs(Mixed(1, 1).shows(BOUND, 0, 1), True)
        self.assertIs(Mixed(1, 1).shows(LOOSE, 0, 1), False)
        self.assertIs(Mixed(1, 1).shows(CURVED, 0, 1), False)
        self.assertIs(Mixed(2, 1).shows(CURVED, 0, 1), True)
        self.assertIs(Mixed(1, 2).shows(CURVED, 1, 0), True)
        self.assertIs(Mixed(1, 2).shows(CURVED, 0, 1), False)

    def test_counts_from_1_to_less_than_the_numbers(self):
        # The sums of these aren't 0, but the letters have two numbers each.
        for many, more in [(2, 2), (1, 3), (3, 1), (1, 2), (2, 1), (40, 40)]:
            self.assertNotEqual(both_sum(BOUND, 0, 1, many, more), (0, 1))
            self.assertIs(Mixed(many, more).shows(BOUND, 0, 1), False)
        for many, more in [(0, 1), (1, 0), (2, 0), (0, 0), (-1, 1), (1, -1), (-40, -40), (0, 2), (41, 1), (1, HUGE)]:
            for table in [BOUND, CURVED, LOOSE, LONG]:
                self.assertIs(Mixed(many, more).shows(table, 0, 1), False)

    def test_counts_to_40(self):
        for many, more in [(39, 1), (1, 17), (20, 3), (40, 1), (1, 40), (40, 40), (39, 20), (39, 21), (12, 12)]:
            told = Mixed(many, more).shows(LONG, 0, 1)
            self.assertIs(told, is_mixed(LONG, 0, 1, many, more))
            self.assertIs(Mixed(more, many).shows(LONG, 1, 0), told)
        self.assertIs(Mixed(39, 39).shows([(1, [at, at]) for at in range(40)], 0, 1), True)
        self.assertIs(Mixed(39, 1).shows([(1, [at, at]) for at in range(40)], 0, 1), True)
        self.assertIs(Mixed(38, 1).shows([(1, [at, at]) for at in range(40)], 0, 1), False)

    def test_true_is_no_count(self):
        for many, more in [(True, 1), (1, True), (True, True), (False, 1), ("1", 1), (None, None), ((1, 1), 1), ([1], [1])]:
            self.assertIs(Mixed(many, more).shows(BOUND, 0, 1), False)

    def test_by_the_fields_as_they_stand_then(self):
        told = apart(CURVED, 0, 1)
        self.assertIs(told.shows(CURVED, 0, 1), True)
        told.many = 1
        self.assertIs(told.shows(CURVED, 0, 1), False)
        self.assertIs(told.shows(BOUND, 0, 1), True)
        told.many, told.more = 1, 2
        self.assertIs(told.shows(CURVED, 1, 0), True)

    def test_after_the_table_was_changed(self):
        table = copy.deepcopy(LOOSE)
        told = apart(table, 0, 1)
        table[3] = (5, [1, 1])
        self.assertIs(told.shows(table, 0, 1), False)
        self.assertIs(told.shows(LOOSE, 0, 1), True)
        told = apart(table, 0, 1)
        table[0][1][0] = 1
        self.assertIs(told.shows(BOUND, 0, 1), True)


class MeansTest(unittest.TestCase):
    def test_what_was_asked_is_shown(self):
        for means in means_lists():
            told = steady(means)
            self.assertIs(stays(self, told.shows, means), True)
            self.assertIs(told.shows(means=means), True)

    def test_of_other_lists(self):
        told = [steady(means) for means in means_lists()]
        for answer, means in itertools.product(told, means_lists()):
            if isinstance(answer, Squares):
                right = are_squares(answer.parts, means)
            else:
                right = is_below(answer.row, means)
            self.assertIs(answer.shows(means), right)

    def test_never_both(self):
        rows = [steady(means).row for means in means_lists() if isinstance(steady(means), Below)]
        for means in means_lists():
            if isinstance(steady(means), Squares):
                for row in rows:
                    self.assertIs(Below(row).shows(means), False)

    def test_one_share_changed(self):
        for means in means_lists():
            told = steady(means)
            for at in range(len(means)):
                for worth in [1, -1, Fraction(1, GREAT)]:
                    other = list(means)
                    other[at] = pair(Fraction(*other[at]) + worth)
                    if isinstance(told, Squares):
                        self.assertIs(told.shows(other), False)
                    else:
                        self.assertIs(told.shows(other), is_below(told.row, other))

    def test_squares_by_hand(self):
        means = pairs([2, 0, 2])
        row, turned = pairs([1, 1]), pairs([1, -1])
        self.assertIs(Squares([((1, 1), row), ((1, 1), turned)]).shows(means), True)
        self.assertIs(Squares([((1, 1), turned), ((1, 1), row)]).shows(means), True)
        self.assertIs(Squares([((2, 1), pairs([1, 0])), ((2, 1), pairs([0, -1]))]).shows(means), True)
        self.assertIs(Squares([((1, 2), row), ((1, 2), row), ((1, 1), turned)]).shows(means), True)
        self.assertIs(Squares([((1, 8), pairs([4, 0])), ((8, 1), pairs([0, Fraction(1, 2)]))]).shows(means), True)
        # With rows of noughts, which add nothing.
        self.assertIs(Squares([((5, 1), pairs([0, 0])), ((1, 1), row), ((1, 1), turned)]).shows(means), True)
        self.assertIs(Squares([((1, 1), row), ((2, 1), turned)]).shows(means), False)
        self.assertIs(Squares([((1, 1), row)]).shows(means), False)
        self.assertIs(Squares([]).shows(means), False)
        self.assertIs(Squares([]).shows([(0, 1)] * 3), True)
        self.assertIs(Squares([((1, 1), [(0, 1)])]).shows([(0, 1)]), True)

    def test_weights_above_0(self):
        self.assertIs(Squares([((-1, 1), [(1, 1)])]).shows([(-1, 1)]), False)
        self.assertIs(Squares([((0, 1), [(1, 1)])]).shows([(0, 1)]), False)
        self.assertIs(Squares([((2, 1), [(1, 1)]), ((-1, 1), [(1, 1)])]).shows([(1, 1)]), False)
        self.assertIs(Squares([((1, 1), [(1, 1)]), ((0, 1), [(1, 1)])]).shows([(1, 1)]), False)
        self.assertIs(Squares([((1, HUGE), [(HUGE, 1)])]).shows([(HUGE, 1)]), True)

    def test_parts_of_other_lengths(self):
        for size, longer in itertools.product(range(1, 9), repeat=2):
            means = pairs([1] * (2 * size - 1))
            self.assertIs(Squares([((1, 1), pairs([1] * longer))]).shows(means), size == longer)
            mixed = [((1, 2), pairs([1] * size)), ((1, 2), pairs([1] * longer))]
            self.assertIs(Squares(mixed).shows(means), size == longer)
            nought = [((1, 1), pairs([1] * size)), ((1, 1), pairs([0] * longer))]
            self.assertIs(Squares(nought).shows(means), size == longer)
            self.assertIs(Squares([((1, 1), []), ((1, 1), pairs([1] * size))]).shows(means), False)
            below = pairs([-1] * (2 * size - 1))
            self.assertIs(Below(pairs([1] * longer)).shows(below), size == longer)
            self.assertIs(Below([]).shows(below), False)

    def test_below_by_hand(self):
        means = pairs([1, 2, 3])
        self.assertIs(Below(pairs([-2, 1])).shows(means), True)
        self.assertIs(Below(pairs([2, -1])).shows(means), True)
        self.assertIs(Below(pairs([1, Fraction(-1, 2)])).shows(means), True)
        self.assertIs(Below(pairs([1, 1])).shows(means), False)
        self.assertIs(Below(pairs([0, 0])).shows(means), False)
        self.assertIs(Below(pairs([-3, 1])).shows(means), False)
        # A square of 0 isn't below it.
        self.assertIs(Below(pairs([-2, 1])).shows(pairs([1, 2, 4])), False)
        self.assertIs(Below([(1, HUGE)]).shows([(-1, HUGE)]), True)
        self.assertIs(Below([(1, HUGE)]).shows([(1, HUGE)]), False)

    def test_any_rows(self):
        dice = Dice(73)
        met = []
        for step in range(300):
            many = 1 + 2 * dice.below(7)
            means, row = dice.shares(many), dice.shares(many // 2 + 1)
            met.append(Below(row).shows(means))
            self.assertIs(met[-1], is_below(row, means))
        self.assertEqual(set(met), {True, False})

    def test_any_parts(self):
        dice = Dice(74)
        for step in range(100):
            size = 1 + dice.below(7)
            numbers = dice.shares(4)
            weights = pairs([Fraction(1 + dice.below(9), 1 + dice.below(9)) for number in numbers])
            parts = [(weight, pairs([Fraction(*number) ** at for at in range(size)])) for weight, number in zip(weights, numbers)]
            means = [
                sum(Fraction(*weight) * Fraction(*number) ** at for weight, number in zip(weights, numbers))
                for at in range(2 * size - 1)
            ]
            self.assertIs(Squares(parts).shows(pairs(means)), True)
            self.assertIs(Squares(parts[1:]).shows(pairs(means)), False)
            means[dice.below(2 * size - 1)] += Fraction(1, GREAT)
            self.assertIs(Squares(parts).shows(pairs(means)), False)

    def test_fields_of_no_such_form_show_nothing(self):
        means = [(1, 1)]
        for parts in [None, (), "", 0, [None], [()], [((1, 1), [(1, 1)], 1)], [[(1, 1), [(1, 1)]]], [((1, 1), ((1, 1),))],
                      [((2, 2), [(1, 1)])], [((1, 1), [(2, 2)])], [((1, 1), [1])], [(1, [(1, 1)])], [((True, 1), [(1, 1)])]]:
            self.assertIs(Squares(parts).shows(means), False)
        for row in [None, (), "", 0, [None], [1], ((1, 1),), [(2, 2)], [(True, 1)], [[1, 1]]]:
            self.assertIs(Below(row).shows([(-1, 1)]), False)

    def test_somewhat_beyond_13_shares(self):
        means = pairs([1] + letter_means([(1, [0]), (2, [3])], 0, 14))
        rows = [pairs([number ** at for at in range(8)]) for number in [0, 3]]
        self.assertIs(Squares([((1, 3), rows[0]), ((2, 3), rows[1])]).shows(means), True)
        self.assertIs(Below(rows[1]).shows(means), False)

    def test_after_the_lists_it_was_made_of_were_changed(self):
        means = pairs([1, 2, 5])
        parts = [((1, 1), pairs([1, 2])), ((1, 1), pairs([0, 1]))]
        told = Squares(parts)
        parts[0][1][0] = (7, 1)
        parts.pop()
        self.assertIs(told.shows(means), True)
        row = pairs([-2, 1])
        below = Below(row)
        row[0] = (0, 1)
        self.assertIs(below.shows(pairs([1, 2, 3])), True)
        asked = pairs([1, 2, 5])
        told = steady(asked)
        asked.clear()
        self.assertIs(told.shows(means), True)

    def test_by_the_fields_as_they_stand_then(self):
        for means in means_lists():
            told = steady(means)
            if isinstance(told, Squares):
                told.parts.append(((1, 1), [(1, 1)] * (len(means) // 2 + 1)))
                self.assertIs(told.shows(means), False)
                told.parts.pop()
                self.assertIs(told.shows(means), True)
                for weight, row in told.parts:
                    row.append((0, 1))
                self.assertIs(told.shows(means), told.parts == [])
                told.parts = [((1, 2), [(1, 1)])]
                self.assertIs(told.shows([(1, 2)]), True)
            else:
                told.row[:] = [(0, 1)] * len(told.row)
                self.assertIs(told.shows(means), False)
                told.row = [(3, 1)]
                self.assertIs(told.shows([(-1, 5)]), True)


if __name__ == "__main__":
    unittest.main()

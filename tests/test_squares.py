"""Promise 15, and what promise 1 says of squares."""

import itertools
import math
import unittest
from fractions import Fraction

from meanloom.answers import Below, Squares
from meanloom.errors import BadMeans
from meanloom.squares import steady
from tests.brute import Dice, letter_means, pair, pairs, shapes, worths
from tests.strange import GREAT, HUGE, lists_in, not_odd_means, stays

ODD = range(1, 14, 2)


def led(table, letter, many):
    """So many means of a letter, 1 ahead of them."""
    return pairs([1] + letter_means(table, letter, many - 1))


def led_lists():
    """Means of letters, 1 ahead, of each odd count."""
    dice = Dice(61)
    tables = shapes() + [dice.table(rows, 1, size=size) for rows in [2, 4, 5, 7, 8] for size in [3, 50]]
    return [led(table, 0, many) for table in tables for many in ODD]


def changed(means, at, worth):
    """The list with so much put to one share."""
    told = list(means)
    told[at] = pair(Fraction(*told[at]) + worth)
    return told


def any_lists():
    """Lists of each odd count: few and great numbers, noughts among them, of either answer."""
    dice = Dice(62)
    told = [pairs(row) for many in [1, 3, 5] for row in itertools.product([-1, 0, 1], repeat=many)]
    for many in ODD:
        told += [dice.shares(many) for step in range(10)]
        told += [pairs([dice.number(1) for place in range(many)]) for step in range(10)]
        # Great shares at even places often have squares.
        told.append(pairs([Fraction(10 ** (at * at), 7) + dice.number(9) if at % 2 == 0 else dice.number(9) for at in range(many)]))
        told.append(pairs([Fraction(GREAT + at, GREAT ** 2 + 2 * at + 1) for at in range(many)]))
        told.append(pairs([Fraction(1, at + 1) for at in range(many)]))
        told.append(pairs([math.factorial(at) for at in range(many)]))
        told += [pairs([0] * at + [worth] + [0] * (many - at - 1)) for at in range(many) for worth in [1, -1]]
    return told + [[(HUGE, 1)], [(-1, HUGE)], [(HUGE, 1), (0, 1), (1, HUGE)], [(1, HUGE), (1, 1), (HUGE, 1)]]


def square_of(row, means):
    """As the document says it."""
    return sum(row[i] * row[j] * means[i + j] for i in range(len(row)) for j in range(len(row)))


def has_squares(means):
    """Whether no square is below 0, told by all corner minors of the rows of means."""
    size = len(means) // 2 + 1
    places = [chosen for many in range(1, size + 1) for chosen in itertools.combinations(range(size), many)]
    return all(determinant([[means[i + j] for j in chosen] for i in chosen]) >= 0 for chosen in places)


def determinant(rows):
    """By the first row, the longest way."""
    if len(rows) == 0:
        return Fraction(1)
    told = Fraction(0)
    for at, worth in enumerate(rows[0]):
        if worth != 0:
            told += (-1) ** at * worth * determinant([row[:at] + row[at + 1:] for row in rows[1:]])
    return told


class SteadyTest(unittest.TestCase):
    def check_share(self, told):
        self.assertIs(type(told), tuple)
        self.assertEqual([type(part) for part in told], [int, int])
        self.assertGreater(told[1], 0)
        self.assertEqual(math.gcd(*told), 1)

    def check_row(self, told, size):
        self.assertIs(type(told), list)
        self.assertEqual(len(told), size)
        for one in told:
            self.check_share(one)

    def check_squares(self, parts, means):
        size = len(means) // 2 + 1
        self.assertIs(type(parts), list)
        for part in parts:
            self.assertIs(type(part), tuple)
            weight, row = part
            self.check_share(weight)
            self.assertGreater(weight[0], 0)
            self.check_row(row, size)
        weights, rows = [Fraction(*weight) for weight, row in parts], [worths(row) for weight, row in parts]
        for i, j in itertools.product(range(size), repeat=2):
            told = sum(weight * row[i] * row[j] for weight, row in zip(weights, rows))
            self.assertEqual(told, Fraction(*means[i + j]))

    def check(self, means):
        """See that what is told is right, and tell whether it is squares."""
        with self.subTest(means=str(means)[:200]):
            told = stays(self, steady, means)
            self.assertIn(type(told), [Squares, Below])
            if isinstance(told, Squares):
                self.check_squares(told.parts, means)
            else:
                self.check_row(told.row, len(means) // 2 + 1)
                self.assertLess(square_of(worths(told.row), worths(means)), 0)
            self.assertIs(told.shows(means), True)
            return isinstance(told, Squares)

    def test_the_means_of_a_letter_always_tell_squares(self):
        for means in led_lists():
            self.assertTrue(self.check(means))

    def test_either_answer(self):
        met = {many: [] for many in ODD}
        for means in any_lists():
            met[len(means)].append(self.check(means))
        for many in ODD:
            self.assertEqual(set(met[many]), {True, False})

    def test_never_the_wrong_one(self):
        for means in any_lists() + led_lists():
            if len(means) <= 7:
                self.assertEqual(isinstance(steady(means), Squares), has_squares(worths(means)))

    def test_one_share_changed(self):
        dice = Dice(63)
        met = []
        for means in led_lists():
            at = dice.below(len(means))
            for worth in [Fraction(1, 2), -3, Fraction(-1, GREAT), GREAT]:
                met.append(self.check(changed(means, at, worth)))
        self.assertEqual(set(met), {True, False})

    def test_the_last_share_lowered_by_a_hair(self):
        # With as many numbers as half the count, or fewer, nothing may be taken away.
        for numbers in range(1, 7):
            table = [(1 + number % 3, [number * number - 3]) for number in range(numbers)]
            for many in ODD:
                hair = Fraction(-1, 10 ** 80)
                told = self.check(changed(led(table, 0, many), -1, hair))
                self.assertEqual(told, numbers > many // 2)
                self.assertTrue(self.check(changed(led(table, 0, many), -1, -hair)))

    def test_noughts_alone(self):
        for many in ODD:
            told = steady([(0, 1)] * many)
            self.assertIs(type(told), Squares)
            self.assertEqual(told.parts, [])
            for at in range(many):
                for worth in [Fraction(1, HUGE), Fraction(-1, HUGE)]:
                    # Only what stands at an end is a square.
                    told = self.check(changed([(0, 1)] * many, at, worth))
                    self.assertEqual(told, worth > 0 and at in [0, many - 1])

    def test_one_share(self):
        for top, bottom in [(5, 3), (1, HUGE), (HUGE, 1)]:
            self.assertTrue(self.check([(top, bottom)]))
            self.assertFalse(self.check([(-top, bottom)]))

    def test_weights_of_squares_made_by_hand(self):
        dice = Dice(64)
        # Powers of as many numbers as the rows are long have squares just if all their weights are above 0.
        for many in ODD:
            size = many // 2 + 1
            numbers = [Fraction(3 * place - 5, 1 + place % 3) for place in range(size)]
            weights = [Fraction(1 + dice.below(9), 1 + dice.below(9)) for place in range(size)]
            means = [sum(weight * number ** at for weight, number in zip(weights, numbers)) for at in range(many)]
            self.assertTrue(self.check(pairs(means)))
            self.assertTrue(self.check(pairs(means[:-1] + [means[-1] + 1])))
            weights[dice.below(size)] *= -1
            means = [sum(weight * number ** at for weight, number in zip(weights, numbers)) for at in range(many)]
            self.assertFalse(self.check(pairs(means)))

    def test_by_hand(self):
        self.assertEqual(steady([(1, 2)]).parts, [((1, 2), [(1, 1)])])
        self.assertFalse(self.check(pairs([1, 2, 3])))
        self.assertTrue(self.check(pairs([1, 2, 4])))
        self.assertTrue(self.check(pairs([0, 0, 4])))
        self.assertFalse(self.check(pairs([0, 1, 4])))
        self.assertFalse(self.check(pairs([0, 0, 1, 0, 5])))
        self.assertFalse(self.check(pairs([1, 0, 0, 0, -1])))
        self.assertTrue(self.check(pairs([1, 0, 1, 0, 1])))
        self.assertFalse(self.check(pairs([1, 0, 1, 0, 1, 1, 1])))
        self.assertIs(type(steady(means=pairs([1, 0, 0, 0, 1]))), Squares)

    def test_what_is_told_is_new(self):
        for means in led_lists()[:40] + any_lists()[:80]:
            first, second = steady(means), steady(means)
            fields = [told.parts if isinstance(told, Squares) else told.row for told in [first, second]]
            self.assertEqual(*fields)
            known = [id(part) for part in lists_in(fields[0]) + lists_in(fields[1]) + [means]]
            self.assertEqual(len(known), len(set(known)))

    def test_refuses_what_is_no_odd_count_of_shares(self):
        for means in not_odd_means():
            with self.subTest(means=id(means)):
                with self.assertRaises(BadMeans):
                    steady(means)


if __name__ == "__main__":
    unittest.main()

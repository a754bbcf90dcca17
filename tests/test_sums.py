"""Promises 9 and 10, and what promise 1 says of sums."""

import itertools
import math
import unittest
from fractions import Fraction

from meanloom.errors import BadKind, BadTable, BadWord
from meanloom.sums import product_sum, sum_of
from meanloom.tables import beside, made, mean
from tests.brute import KINDS, Dice, every_grouping, every_of_kind, inside, mean_of, pair, shapes, word_sum
from tests.strange import GREAT, HUGE, not_kinds, not_lists, not_tables, not_words, stays

FAIR = [(1, [-1]), (1, [1])]


def cases():
    """Tables with words of each length from 1 on."""
    dice = Dice(11)
    for table in shapes():
        for many in range(1, 7):
            # The longest way takes long for many rows and letters.
            if len(table) <= 3 or many <= 4:
                yield table, dice.word(many, len(table[0][1]))
    for letters in [1, 4]:
        yield dice.table(40, letters), dice.word(6, letters)


def joined_whole(one, other):
    """Whether only the grouping of one group holds both."""
    many = sum(len(group) for group in one)
    return not any(len(told) > 1 and inside(one, told) and inside(other, told) for told in every_grouping(many))


class SumTest(unittest.TestCase):
    def test_marks_times_products_of_means(self):
        for table, word in cases():
            for kind in KINDS:
                with self.subTest(table=table, word=word, kind=kind):
                    told = stays(self, sum_of, table, word, kind)
                    self.assertEqual(told, pair(word_sum(table, word, kind)))
                    self.assertIs(type(told), tuple)
                    self.assertEqual([type(part) for part in told], [int, int])

    def test_the_mean_is_the_products_of_sums_over_all_groupings(self):
        dice = Dice(12)
        for many in range(1, 7):
            for letters, rows in [(1, 3), (2, 2), (3, 4), (4, 5)]:
                table, word = dice.table(rows, letters), dice.word(many, letters)
                for kind in KINDS:
                    told = Fraction(0)
                    for grouping in every_of_kind(many, kind):
                        parts = [sum_of(table, [word[place] for place in group], kind) for group in grouping]
                        told += math.prod(Fraction(*part) for part in parts)
                    self.assertEqual(pair(told), mean(table, word))

    def test_one_and_two_letters_by_hand(self):
        for table, word in cases():
            for kind in KINDS:
                self.assertEqual(sum_of(table, word[:1], kind), mean(table, word[:1]))
                twice = (word * 2)[:2]
                told = mean_of(table, twice) - mean_of(table, twice[:1]) * mean_of(table, twice[1:])
                self.assertEqual(sum_of(table, twice, kind), pair(told))

    def test_by_hand(self):
        self.assertEqual([sum_of(FAIR, [0] * 4, kind) for kind in KINDS], [(-2, 1), (-1, 1), (0, 1)])
        self.assertEqual([sum_of(FAIR, [0] * 6, kind) for kind in KINDS], [(16, 1), (2, 1), (0, 1)])
        self.assertEqual([sum_of(FAIR, [0] * 5, kind) for kind in KINDS], [(0, 1)] * 3)
        coin = [(1, [0]), (1, [1])]
        self.assertEqual([sum_of(coin, [0] * 3, kind) for kind in KINDS], [(0, 1), (0, 1), (1, 8)])
        self.assertEqual([sum_of(coin, [0] * 4, kind) for kind in KINDS], [(-1, 8), (-1, 16), (1, 16)])
        self.assertEqual(sum_of(kind="rows", word=[0, 0], table=coin), (1, 4))
        self.assertEqual([sum_of([(5, [3])], [0] * many, kind) for many in [2, 6] for kind in KINDS], [(0, 1)] * 6)

    def test_places_count_not_letters_alone(self):
        table = [(1, [0, 1]), (1, [1, 1]), (1, [3, -2])]
        for kind in KINDS:
            for word in itertools.product([0, 1], repeat=4):
                self.assertEqual(sum_of(table, list(word), kind), pair(word_sum(table, word, kind)))
        self.assertNotEqual(sum_of(table, [0, 0, 1, 1], "rows"), sum_of(table, [0, 1, 0, 1], "rows"))
        self.assertNotEqual(sum_of(table, [0, 0, 1, 1], "nested"), sum_of(table, [0, 1, 0, 1], "nested"))
        self.assertEqual(sum_of(table, [0, 0, 1, 1], "all"), sum_of(table, [0, 1, 0, 1], "all"))

    def test_a_number_put_to_a_letter(self):
        dice = Dice(13)
        for many in range(1, 7):
            table, word = dice.table(3, 2), [0] + dice.word(many - 1, 2)
            moved = made(table, [[1, 0, 5], [0, 1, 0]])
            for kind in ["all", "nested"]:
                told = Fraction(*sum_of(table, word, kind)) + (5 if many == 1 else 0)
                self.assertEqual(sum_of(moved, word, kind), pair(told))
            self.assertEqual(sum_of(moved, word, "rows"), pair(word_sum(moved, word, "rows")))
        self.assertEqual(sum_of(made(FAIR, [[1, 1]]), [0] * 3, "rows"), (1, 1))

    def test_a_number_before_a_letter(self):
        table = Dice(14).table(4, 1)
        for many in range(1, 7):
            for kind in KINDS:
                told = Fraction(*sum_of(table, [0] * many, kind)) * (-3) ** many
                self.assertEqual(sum_of(made(table, [[-3, 0]]), [0] * many, kind), pair(told))

    def test_two_tables_beside_one_another(self):
        dice = Dice(15)
        one, other = dice.table(3, 1), dice.table(4, 1)
        both = beside(one, other)
        total = made(both, [[1, 1, 0]])
        for many in range(1, 7):
            for word in itertools.product([0, 1], repeat=many):
                told = sum_of(both, list(word), "all")
                if 0 < sum(word) < many:
                    self.assertEqual(told, (0, 1))
                else:
                    self.assertEqual(told, sum_of([one, other][word[0]], [0] * many, "all"))
            parts = [Fraction(*sum_of(table, [0] * many, "all")) for table in [one, other]]
            self.assertEqual(sum_of(total, [0] * many, "all"), pair(sum(parts)))

    def test_all_weights_so_many_times(self):
        table = Dice(16).table(4, 2)
        more = [(weight * GREAT, numbers) for weight, numbers in table]
        for kind in KINDS:
            for word in [[0], [0, 1], [0, 1, 0], [1, 1, 0, 0], [0, 1, 0, 1, 0], [0, 1, 1, 0, 1, 0]]:
                self.assertEqual(sum_of(more, word, kind), sum_of(table, word, kind))

    def test_very_great_numbers(self):
        table = [(1, [-HUGE]), (1, [HUGE])]
        self.assertEqual([sum_of(table, [0] * 4, kind) for kind in KINDS], [(-2 * HUGE ** 4, 1), (-(HUGE ** 4), 1), (0, 1)])
        self.assertEqual(sum_of([(HUGE, [0]), (1, [1])], [0], "rows"), (1, HUGE + 1))

    def test_refuses_what_is_no_table_first(self):
        for table in not_tables():
            for word, kind in [([0], "all"), ([], "all"), ([0], "none"), (None, None), ([9], "rows")]:
                with self.subTest(table=id(table), word=word, kind=kind):
                    with self.assertRaises(BadTable):
                        sum_of(table, word, kind)

    def test_refuses_what_is_no_word_then(self):
        for letters in [1, 2, 4]:
            for word in not_words(letters) + [[]]:
                for kind in KINDS + ["none", None]:
                    with self.subTest(letters=letters, word=id(word), kind=kind):
                        with self.assertRaises(BadWord):
                            sum_of([(1, [0] * letters), (2, [1] * letters)], word, kind)

    def test_refuses_what_is_no_kind_last(self):
        for kind in not_kinds():
            for word in [[0], [0, 1], [1] * 6]:
                with self.subTest(word=word, kind=id(kind)):
                    with self.assertRaises(BadKind):
                        sum_of([(1, [0, 1]), (2, [1, 3])], word, kind)


def splits(word):
    """All lists of words that, one behind the other, are the word."""
    if len(word) == 0:
        return [[]]
    return [[word[:at]] + rest for at in range(1, len(word) + 1) for rest in splits(word[at:])]


class ProductSumTest(unittest.TestCase):
    def test_the_words_as_letters(self):
        dice = Dice(21)
        for table in [dice.table(3, 2), dice.table(5, 3), dice.table(2, 4), dice.table(40, 1)]:
            for many in range(1, 7):
                word = dice.word(many, len(table[0][1]))
                for words in splits(word):
                    told = stays(self, product_sum, table, words)
                    letters = [(weight, [math.prod(numbers[letter] for letter in part) for part in words])
                               for weight, numbers in table]
                    self.assertEqual(told, pair(word_sum(letters, list(range(len(words))), "all")))
                    self.assertIs(type(told), tuple)
                    self.assertEqual([type(part) for part in told], [int, int])

    def test_groupings_that_joined_with_the_words_have_one_group(self):
        dice = Dice(22)
        for many in range(1, 6):
            table, word = dice.table(3, 2), dice.word(many, 2)
            for words in splits(word):
                ends = [sum(len(part) for part in words[:at]) for at in range(len(words) + 1)]
                homes = [list(range(start, stop)) for start, stop in zip(ends, ends[1:])]
                told = Fraction(0)
                for grouping in every_grouping(many):
                    if joined_whole(grouping, homes):
                        parts = [sum_of(table, [word[place] for place in group], "all") for group in grouping]
                        told += math.prod(Fraction(*part) for part in parts)
                self.assertEqual(product_sum(table, words), pair(told))

    def test_one_word_alone_has_its_mean(self):
        dice = Dice(23)
        for table in shapes():
            for many in range(1, 7):
                word = dice.word(many, len(table[0][1]))
                self.assertEqual(product_sum(table, [word]), mean(table, word))

    def test_words_of_one_letter_have_their_sum(self):
        dice = Dice(24)
        for table in shapes():
            for many in range(1, 7):
                word = dice.word(many, len(table[0][1]))
                self.assertEqual(product_sum(table, [[letter] for letter in word]), sum_of(table, word, "all"))

    def test_by_hand(self):
        self.assertEqual(product_sum(FAIR, [[0, 0], [0]]), (0, 1))
        self.assertEqual(product_sum(FAIR, [[0, 0], [0, 0]]), (0, 1))
        self.assertEqual(product_sum(FAIR, [[0], [0, 0, 0]]), (1, 1))
        self.assertEqual(product_sum(FAIR, [[0, 0, 0], [0, 0, 0]]), (1, 1))
        self.assertEqual(product_sum(FAIR, [[0]] * 6), (16, 1))
        # one more letter than a table may have, as each word is a letter of its own
        table = [(1, [1, 2, 3, 5]), (2, [0, 1, -1, 2])]
        words = [[0], [1], [2], [3], [0, 1]]
        letters = [(1, [1, 2, 3, 5, 2]), (2, [0, 1, -1, 2, 0])]
        self.assertEqual(product_sum(table, words), pair(word_sum(letters, [0, 1, 2, 3, 4], "all")))
        self.assertEqual(product_sum(words=[[0, 1], [1]], table=[(1, [1, 0]), (1, [0, 1])]), (0, 1))

    def test_words_may_be_the_same_object(self):
        table, word = Dice(25).table(3, 2), [0, 1]
        self.assertEqual(stays(self, product_sum, table, [word] * 3), product_sum(table, [[0, 1], [0, 1], [0, 1]]))

    def test_6_letters_together_and_7(self):
        table = [(1, [0]), (1, [1])]
        for many in range(1, 7):
            full = [[0]] * (many - 1) + [[0] * (7 - many)]
            self.assertEqual(product_sum(table, full), sum_of(table, [0] * many, "all"))
            with self.assertRaises(BadWord):
                product_sum(table, full[:-1] + [full[-1] + [0]])
            with self.assertRaises(BadWord):
                product_sum(table, full + [[0]])

    def test_refuses_what_is_no_table_first(self):
        for table in not_tables():
            for words in [[[0]], [], None, [[]], [[9]]]:
                with self.subTest(table=id(table), words=words):
                    with self.assertRaises(BadTable):
                        product_sum(table, words)

    def test_refuses_what_are_no_words(self):
        for letters in [1, 2, 4]:
            table = [(1, [0] * letters), (2, [1] * letters)]
            bad = not_lists() + [[], [0], [0, 0], [[[0]]], [[]], [[0], []], [[], [0]], [[0]] * 7, [[0]] * 1000]
            bad += [[word] for word in not_words(letters)] + [[[0], word] for word in not_words(letters)]
            bad += [[word, [0]] for word in not_words(letters)] + [([0],), [(0,)], [[0], (0,)]]
            for words in bad:
                with self.subTest(letters=letters, words=id(words)):
                    with self.assertRaises(BadWord):
                        product_sum(table, words)


if __name__ == "__main__":
    unittest.main()

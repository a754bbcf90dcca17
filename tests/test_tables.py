"""Promises 7 and 8, and what promise 1 says of tables."""

import itertools
import unittest

from meanloom.errors import BadTable, BadWays, BadWord, TooMany
from meanloom.tables import beside, made, mean
from tests.brute import Dice, mean_of, pair, shapes
from tests.strange import GREAT, HUGE, not_tables, not_ways, not_words, stays, told_new

COINS = [(1, [0, 3]), (2, [1, -1]), (1, [2, 5])]


def lengths():
    """Tables with some words of each length."""
    dice = Dice(2)
    for table in shapes():
        for many in range(7):
            for step in range(3):
                yield table, dice.word(many, len(table[0][1]))


class MeanTest(unittest.TestCase):
    def test_weights_times_products_by_all_weights(self):
        for table, word in lengths():
            with self.subTest(table=table, word=word):
                told = stays(self, mean, table, word)
                self.assertEqual(told, pair(mean_of(table, word)))
                self.assertIs(type(told), tuple)
                self.assertEqual([type(part) for part in told], [int, int])

    def test_every_word_of_a_small_table(self):
        table = Dice(3).table(5, 2)
        for many in range(7):
            for word in itertools.product([0, 1], repeat=many):
                self.assertEqual(mean(table, list(word)), pair(mean_of(table, word)))

    def test_by_hand(self):
        self.assertEqual(mean(COINS, [0]), (1, 1))
        self.assertEqual(mean(COINS, [1]), (3, 2))
        self.assertEqual(mean(COINS, [0, 0]), (3, 2))
        self.assertEqual(mean(COINS, [0, 1]), (2, 1))
        self.assertEqual(mean(COINS, [1, 1, 1]), (75, 2))
        self.assertEqual(mean(COINS, [1, 0, 0]), (9, 2))
        self.assertEqual(mean([(1, [-1]), (1, [1])], [0] * 5), (0, 1))
        self.assertEqual(mean([(1, [-1]), (1, [1])], [0] * 6), (1, 1))
        self.assertEqual(mean([(3, [-2])], [0, 0, 0]), (-8, 1))
        self.assertEqual(mean(word=[3], table=[(1, [0, 0, 0, 1]), (2, [0, 0, 0, 0])]), (1, 3))

    def test_of_no_letters_1(self):
        for table in shapes():
            self.assertEqual(mean(table, []), (1, 1))

    def test_letters_in_another_turn(self):
        table = Dice(4).table(7, 3)
        for word in itertools.permutations([0, 0, 1, 1, 2]):
            self.assertEqual(mean(table, list(word)), mean(table, [0, 0, 1, 1, 2]))
            self.assertEqual(mean(table, list(word)), pair(mean_of(table, word)))

    def test_all_weights_so_many_times(self):
        for table, word in lengths():
            for many in [2, 3, GREAT]:
                more = [(weight * many, numbers) for weight, numbers in table]
                self.assertEqual(mean(more, word), mean(table, word))

    def test_very_great_numbers(self):
        table = [(HUGE, [HUGE]), (2 * HUGE, [-HUGE])]
        self.assertEqual(mean(table, [0]), (-HUGE // 3, 1))
        self.assertEqual(mean(table, [0] * 6), (HUGE ** 6, 1))
        self.assertEqual(mean([(HUGE, [1]), (1, [0])], [0]), (HUGE, HUGE + 1))

    def test_the_most_rows_letters_and_a_full_word(self):
        table = [(row + 1, [row, -row, 1, 0]) for row in range(40)]
        self.assertEqual(mean(table, [0, 1, 2, 2, 2, 2]), pair(mean_of(table, [0, 1])))
        self.assertEqual(mean(table, [3, 3, 3, 3, 3, 3]), (0, 1))

    def test_refuses_what_is_no_table_first(self):
        for table in not_tables():
            for word in [[], [0], [9], None, [0] * 7]:
                with self.subTest(table=id(table), word=word):
                    with self.assertRaises(BadTable):
                        mean(table, word)

    def test_refuses_what_is_no_word(self):
        for letters in [1, 2, 3, 4]:
            for word in not_words(letters):
                with self.subTest(letters=letters, word=id(word)):
                    with self.assertRaises(BadWord):
                        mean([(1, [0] * letters), (2, [1] * letters)], word)

    def test_rows_may_be_the_same_object(self):
        row = (1, [3])
        self.assertEqual(mean([row] * 40, [0, 0]), (9, 1))


class BesideTest(unittest.TestCase):
    def test_rows_weights_and_numbers(self):
        one = [(2, [1, 2]), (3, [3, 4])]
        other = [(5, [5]), (7, [6]), (1, [7])]
        self.assertEqual(stays(self, beside, one, other), [
            (10, [1, 2, 5]), (14, [1, 2, 6]), (2, [1, 2, 7]), (15, [3, 4, 5]), (21, [3, 4, 6]), (3, [3, 4, 7]),
        ])
        self.assertEqual(beside(other=one, one=other), [
            (10, [5, 1, 2]), (15, [5, 3, 4]), (14, [6, 1, 2]), (21, [6, 3, 4]), (2, [7, 1, 2]), (3, [7, 3, 4]),
        ])

    def pairs_that_fit(self):
        for one, other in itertools.product(shapes(), shapes()):
            if len(one) * len(other) <= 40 and len(one[0][1]) + len(other[0][1]) <= 4:
                yield one, other

    def test_each_row_with_each(self):
        for one, other in self.pairs_that_fit():
            told = stays(self, beside, one, other)
            self.assertEqual(len(told), len(one) * len(other))
            for at, row in enumerate(told):
                first, second = one[at // len(other)], other[at % len(other)]
                self.assertEqual(row, (first[0] * second[0], first[1] + second[1]))
                self.assertEqual([type(part) for part in row], [int, list])

    def test_the_mean_of_a_word_of_both_tables_letters(self):
        dice = Dice(5)
        for one, other in self.pairs_that_fit():
            letters = len(one[0][1])
            for many, more in [(1, 1), (3, 3), (0, 2), (2, 0), (1, 4)]:
                word, second = dice.word(many, letters), dice.word(more, len(other[0][1]))
                told = mean(beside(one, other), word + [letter + letters for letter in second])
                self.assertEqual(told, pair(mean_of(one, word) * mean_of(other, second)))

    def test_a_table_beside_itself(self):
        table = [(1, [0, 1]), (3, [2, 2])]
        self.assertEqual(beside(table, table), [
            (1, [0, 1, 0, 1]), (3, [0, 1, 2, 2]), (3, [2, 2, 0, 1]), (9, [2, 2, 2, 2]),
        ])
        told_new(self, beside, table, table)

    def test_what_is_told_is_new(self):
        for one, other in [(COINS, COINS), (COINS, [(1, [0])]), ([(1, [0])] * 5, [(2, [1, 2])] * 8)]:
            told_new(self, beside, one, other)

    def test_just_40_rows_and_beyond(self):
        for many, more in [(1, 40), (40, 1), (2, 20), (5, 8), (8, 5), (4, 10), (3, 13)]:
            told = beside([(2, [row]) for row in range(many)], [(3, [row]) for row in range(more)])
            self.assertEqual(len(told), many * more)
            self.assertEqual(mean(told, []), (1, 1))
        for many, more in [(6, 7), (7, 6), (2, 21), (21, 2), (3, 14), (40, 2), (2, 40), (40, 40)]:
            with self.assertRaises(TooMany):
                beside([(2, [row]) for row in range(many)], [(3, [row]) for row in range(more)])

    def test_just_4_letters_and_beyond(self):
        for letters, more in itertools.product(range(1, 5), range(1, 5)):
            one, other = [(1, [1] * letters)], [(1, [2] * more)]
            if letters + more <= 4:
                self.assertEqual(beside(one, other), [(1, [1] * letters + [2] * more)])
            else:
                with self.assertRaises(TooMany):
                    beside(one, other)

    def test_refuses_what_is_no_table_before_too_many(self):
        goods = [[(1, [0])], [(1, [0] * 4)] * 40]
        for table in not_tables():
            for good in goods:
                for one, other in [(table, good), (good, table), (table, table)]:
                    with self.subTest(one=id(one), other=id(other)):
                        with self.assertRaises(BadTable):
                            beside(one, other)


class MadeTest(unittest.TestCase):
    def ways_of(self, dice, letters, many):
        return [[dice.number(4) for place in range(letters + 1)] for way in range(many)]

    def test_so_many_times_each_and_the_last_one_put_to_it(self):
        dice = Dice(6)
        for table in shapes():
            letters = len(table[0][1])
            for many in [1, 2, 3, 4]:
                ways = self.ways_of(dice, letters, many)
                told = stays(self, made, table, ways)
                self.assertEqual([weight for weight, numbers in told], [weight for weight, numbers in table])
                for (weight, new), (same, old) in zip(told, table):
                    self.assertEqual(new, [sum(map(int.__mul__, way, old + [1])) for way in ways])
                    self.assertEqual({type(number) for number in new}, {int})
                self.assertEqual([type(row) for row in told], [tuple] * len(table))

    def test_by_the_old_letters_themselves(self):
        for table in shapes():
            letters = len(table[0][1])
            ways = [[1 if place == letter else 0 for place in range(letters + 1)] for letter in range(letters)]
            self.assertEqual(made(table, ways), table)
            self.assertEqual(made(table, ways[::-1]), [(weight, numbers[::-1]) for weight, numbers in table])
            moved = made(table, [way[:-1] + [7] for way in ways])
            self.assertEqual(moved, [(weight, [number + 7 for number in numbers]) for weight, numbers in table])
            self.assertEqual(mean(moved, [0]), pair(mean_of(table, [0]) + 7))

    def test_by_hand(self):
        self.assertEqual(made(COINS, [[0, 0, 5]]), [(1, [5]), (2, [5]), (1, [5])])
        self.assertEqual(made(COINS, [[1, 1, 0], [-1, 2, 1]]), [(1, [3, 7]), (2, [0, -2]), (1, [7, 9])])
        self.assertEqual(made(ways=[[2, -3]], table=[(4, [5])]), [(4, [7])])
        self.assertEqual(made([(1, [1, 2, 3, 4])], [[1, 10, 100, 1000, 10000]] * 4), [(1, [14321] * 4)])
        self.assertEqual(made([(1, [HUGE])], [[-HUGE, GREAT]]), [(1, [GREAT - HUGE ** 2])])

    def test_the_mean_of_a_new_letter(self):
        table = Dice(7).table(9, 3)
        for way in self.ways_of(Dice(8), 3, 20):
            told = sum(many * mean_of(table, [letter]) for letter, many in enumerate(way[:-1])) + way[-1]
            self.assertEqual(mean(made(table, [way]), [0]), pair(told))

    def test_as_many_rows(self):
        for rows in [1, 2, 39, 40]:
            self.assertEqual(made([(3, [1])] * rows, [[1, 1]] * 4), [(3, [2] * 4)] * rows)

    def test_what_is_told_is_new(self):
        told_new(self, made, COINS, [[1, 0, 0], [0, 1, 0]])
        told_new(self, made, [(1, [0])] * 40, [[1, 0]] * 4)
        way = [1, 0]
        told_new(self, made, [(1, [3])], [way, way])
        told_new(self, made, [(1, way), (1, way)], [[1, 0, 0]])

    def test_refuses_what_is_no_table_first(self):
        for table in not_tables():
            for ways in [[[1, 0, 0]], [[1, 0]], [], None]:
                with self.subTest(table=id(table), ways=ways):
                    with self.assertRaises(BadTable):
                        made(table, ways)

    def test_refuses_what_are_no_ways(self):
        for letters in [1, 2, 3, 4]:
            for ways in not_ways(letters):
                with self.subTest(letters=letters, ways=id(ways)):
                    with self.assertRaises(BadWays):
                        made([(1, [0] * letters), (2, [1] * letters)], ways)


if __name__ == "__main__":
    unittest.main()

"""Promise 14, and what promise 1 says of two letters."""

import itertools
import math
import unittest
from fractions import Fraction

from meanloom.answers import Apart, Mixed
from meanloom.binding import apart, both_sum
from meanloom.errors import BadCount, BadLetters, BadTable
from meanloom.sums import sum_of
from meanloom.tables import beside, made, mean
from tests.brute import Dice, mean_of, pair, shapes, word_sum
from tests.strange import GREAT, HUGE, not_tables, not_two_counts, not_two_letters, stays

BOUND = [(1, [0, 0]), (1, [1, 1])]
# Of no mixed product of 1 and 1: the other letter is the square of the one.
CURVED = [(1, [-1, 1]), (1, [0, 0]), (1, [1, 1])]


def two_letters(table):
    """All pairs of unlike letters."""
    return list(itertools.permutations(range(len(table[0][1])), 2))


def are_apart(table, one, other):
    """As the document says it, for any numbers that the letters have."""
    total = sum(weight for weight, numbers in table)
    for first, second in itertools.product({row[1][one] for row in table}, {row[1][other] for row in table}):
        both = sum(weight for weight, row in table if row[one] == first and row[other] == second)
        early = sum(weight for weight, row in table if row[one] == first)
        late = sum(weight for weight, row in table if row[other] == second)
        if both * total != early * late:
            return False
    return True


def how_many_numbers(table, letter):
    return len({numbers[letter] for weight, numbers in table})


def even_bits(size):
    """Rows of bits of which an even count is 1: any size - 1 letters are apart, all together are not."""
    return [(1, list(bits)) for bits in itertools.product([0, 1], repeat=size) if sum(bits) % 2 == 0]


def dice_tables():
    """Tables of 2 to 4 letters."""
    dice = Dice(51)
    told = [table for table in shapes() if len(table[0][1]) > 1]
    for rows, letters in itertools.product([2, 3, 4, 5, 9], [2, 3, 4]):
        told += [dice.table(rows, letters, size=size) for size in [1, 2, 30]]
    return told + [BOUND, CURVED, even_bits(3), even_bits(4), [(1, [0, 0])], [(5, [2, 2, 2])] * 3]


def apart_tables():
    """Tables put beside one another, each with how many letters the first one has."""
    dice = Dice(52)
    told = []
    for (rows, letters), (more, further) in itertools.product([(1, 1), (2, 1), (3, 2), (5, 1)], [(2, 1), (3, 2), (8, 2)]):
        told.append((beside(dice.table(rows, letters), dice.table(more, further)), letters))
    told.append((beside(dice.table(6, 1, size=10 ** 9, weight=10 ** 9), dice.table(6, 1, size=10 ** 9)), 1))
    told.append((beside([(GREAT, [HUGE]), (1, [0])], [(3, [GREAT]), (HUGE, [-GREAT]), (7, [1])]), 1))
    return told


def spoiled(table):
    """The table with one weight changed, with one row gone, for some rows."""
    told = []
    for at in sorted({0, len(table) // 2, len(table) - 1}):
        weight, numbers = table[at]
        told.append(table[:at] + [(weight + 1, numbers)] + table[at + 1:])
        if len(table) > 1:
            told.append(table[:at] + table[at + 1:])
    return told


def same_weights(table):
    """Tables with the same weights: rows in another turn, a row parted into two, all weights doubled."""
    told = [table[::-1], table[1:] + table[:1], [(2 * weight, numbers) for weight, numbers in table]]
    for at, (weight, numbers) in enumerate(table):
        if weight > 1 and len(table) < 40:
            told.append(table[:at] + [(1, numbers)] + table[at + 1:] + [(weight - 1, numbers)])
    return told


def both_sums(table, one, other, many, more):
    """All sums of fewer, by the means less the other groupings: those of the group that holds the first one."""
    means = {
        (early, late): mean_of(table, [one] * early + [other] * late)
        for early in range(many + 1)
        for late in range(more + 1)
    }
    sums = {}
    for early, late in sorted(means)[1:]:
        # The group of the first place: a one letter if there is one, else the other letter.
        fixed = (1, 0) if early > 0 else (0, 1)
        told = means[early, late]
        for take, draw in itertools.product(range(fixed[0], early + 1), range(fixed[1], late + 1)):
            if (take, draw) != (early, late):
                ways = math.comb(early - fixed[0], take - fixed[0]) * math.comb(late - fixed[1], draw - fixed[1])
                told -= ways * sums[take, draw] * means[early - take, late - draw]
        sums[early, late] = told
    return sums


class BothSumTest(unittest.TestCase):
    def check_share(self, told):
        self.assertIs(type(told), tuple)
        self.assertEqual([type(part) for part in told], [int, int])
        self.assertGreater(told[1], 0)
        self.assertEqual(math.gcd(*told), 1)

    def test_as_the_sum_of_the_word_by_all_groupings(self):
        for table in dice_tables():
            for one, other in two_letters(table)[:4]:
                for many, more in itertools.product(range(7), range(7)):
                    if 0 < many + more <= 6:
                        with self.subTest(table=table, letters=(one, other), many=many, more=more):
                            told = stays(self, both_sum, table, one, other, many, more)
                            self.assertEqual(told, sum_of(table, [one] * many + [other] * more, "all"))
                            self.check_share(told)

    def test_by_the_marks(self):
        dice = Dice(53)
        table = dice.table(3, 3)
        for many, more in [(1, 0), (0, 2), (2, 2), (1, 4), (3, 3)]:
            told = word_sum(table, [2] * many + [0] * more, "all")
            self.assertEqual(both_sum(table, 2, 0, many, more), pair(told))

    def test_by_the_means_less_the_other_groupings(self):
        dice = Dice(54)
        for rows, letters in [(2, 2), (5, 3), (40, 4)]:
            table = dice.table(rows, letters)
            sums = both_sums(table, letters - 1, 0, 9, 9)
            for (many, more), told in sums.items():
                with self.subTest(rows=rows, many=many, more=more):
                    self.assertEqual(both_sum(table, letters - 1, 0, many, more), pair(told))

    def test_counts_to_40_of_one_letter_with_few_of_the_other(self):
        dice = Dice(55)
        for table in [dice.table(4, 2), dice.table(40, 2, size=9), [(3, [10 ** 12, -1]), (4, [7, 2]), (1, [-(10 ** 9), 5])]]:
            sums = both_sums(table, 0, 1, 40, 2)
            for many, more in itertools.product([0, 1, 2, 3, 20, 39, 40], [0, 1, 2]):
                if many + more > 0:
                    self.assertEqual(both_sum(table, 0, 1, many, more), pair(sums[many, more]))
                    self.assertEqual(both_sum(table, 1, 0, more, many), pair(sums[many, more]))

    def test_40_of_each(self):
        table = [(1, [0, 3]), (2, [1, -1]), (1, [2, 5]), (3, [-1, 0])]
        sums = both_sums(table, 0, 1, 40, 40)
        for many, more in [(40, 40), (40, 39), (17, 40), (40, 0), (0, 40)]:
            told = stays(self, both_sum, table, 0, 1, many, more)
            self.assertEqual(told, pair(sums[many, more]))
            self.assertEqual(both_sum(table, 1, 0, more, many), told)

    def test_40_of_each_of_a_table_of_40_rows(self):
        dice = Dice(56)
        table = dice.table(40, 2, size=10 ** 6, weight=10 ** 6)
        told = both_sum(table, 0, 1, 40, 40)
        self.check_share(told)
        self.assertEqual(both_sum(table[::-1], 1, 0, 40, 40), told)
        # Numbers put to the letters change nothing, and numbers put before them come out as powers.
        self.assertEqual(both_sum(made(table, [[1, 0, 5], [0, 1, -7]]), 0, 1, 40, 40), told)
        much = both_sum(made(table, [[2, 0, 0], [0, -3, 0]]), 0, 1, 40, 40)
        self.assertEqual(much, pair(Fraction(*told) * 2 ** 40 * 3 ** 40))

    def test_letters_in_either_turn(self):
        for table in dice_tables():
            for one, other in two_letters(table)[:3]:
                for many, more in [(1, 0), (0, 1), (1, 1), (2, 5), (4, 7)]:
                    told = both_sum(table, one, other, many, more)
                    self.assertEqual(both_sum(table, other, one, more, many), told)

    def test_rows_otherwise(self):
        for table in [table for table in dice_tables() if len(table) < 10]:
            told = [both_sum(table, 0, 1, many, more) for many, more in [(1, 0), (1, 1), (3, 2)]]
            for same in same_weights(table):
                again = [both_sum(same, 0, 1, many, more) for many, more in [(1, 0), (1, 1), (3, 2)]]
                self.assertEqual(again, told)

    def test_0_of_letters_apart(self):
        for table, letters in apart_tables():
            for many, more in [(1, 1), (2, 1), (1, 5), (3, 3)]:
                self.assertEqual(both_sum(table, 0, letters, many, more), (0, 1))
            if table[0][0] < 1000:
                self.assertEqual(both_sum(table, letters, 0, 12, 11), (0, 1))

    def test_one_of_one_letter_is_its_mean(self):
        for table in dice_tables():
            for one, other in two_letters(table):
                self.assertEqual(both_sum(table, one, other, 1, 0), mean(table, [one]))
                self.assertEqual(both_sum(table, one, other, 0, 1), mean(table, [other]))

    def test_by_hand(self):
        self.assertEqual(both_sum(BOUND, 0, 1, 1, 1), (1, 4))
        self.assertEqual(both_sum(BOUND, 0, 1, 2, 1), (0, 1))
        self.assertEqual(both_sum(BOUND, 0, 1, 2, 2), (-1, 8))
        self.assertEqual(both_sum(CURVED, 0, 1, 1, 1), (0, 1))
        self.assertEqual(both_sum(more=1, many=2, other=1, one=0, table=CURVED), (2, 9))
        self.assertEqual(both_sum([(3, [7, 8])], 0, 1, 0, 1), (8, 1))
        self.assertEqual(both_sum([(3, [7, 8])], 0, 1, 40, 40), (0, 1))
        self.assertEqual(both_sum([(1, [HUGE, 0]), (1, [0, HUGE])], 0, 1, 1, 1), pair(Fraction(-(HUGE ** 2), 4)))

    def test_refuses_what_is_no_table_first(self):
        for table in not_tables():
            for rest in [(0, 1, 1, 1), (0, 0, 1, 1), (0, 1, 0, 0), (None, 5, True, 41)]:
                with self.subTest(table=id(table), rest=rest):
                    with self.assertRaises(BadTable):
                        both_sum(table, *rest)

    def test_refuses_what_are_no_two_unlike_letters_then(self):
        for letters in [1, 2, 4]:
            for one, other in not_two_letters(letters):
                for many, more in [(1, 1), (0, 0), (41, 0), (None, True)]:
                    with self.subTest(letters=letters, one=id(one), other=id(other), many=many):
                        with self.assertRaises(BadLetters):
                            both_sum([(1, [0] * letters)], one, other, many, more)

    def test_refuses_what_are_no_counts(self):
        for many, more in not_two_counts():
            for table, one, other in [(BOUND, 0, 1), (BOUND, 1, 0), ([(1, [0, 1, 2, 3])], 3, 1)]:
                with self.subTest(many=id(many), more=id(more), one=one):
                    with self.assertRaises(BadCount):
                        both_sum(table, one, other, many, more)

    def test_each_count_from_0_to_40_is_taken(self):
        for many in range(41):
            for one, other, more in [(0, 1, 1), (1, 0, 2), (0, 1, 40 - many)]:
                self.assertEqual(both_sum([(1, [0, 0])], one, other, many, more), (0, 1))
                self.assertEqual(both_sum([(1, [0, 0])], one, other, more, many), (0, 1))


class ApartTest(unittest.TestCase):
    def check(self, table, one, other):
        """See that what is told is right, and tell whether the letters are apart."""
        told = stays(self, apart, table, one, other)
        if are_apart(table, one, other):
            self.assertIs(type(told), Apart)
        else:
            self.assertIs(type(told), Mixed)
            self.assertEqual([type(told.many), type(told.more)], [int, int])
            self.assertIn(told.many, range(1, how_many_numbers(table, one)))
            self.assertIn(told.more, range(1, how_many_numbers(table, other)))
            self.assertNotEqual(both_sum(table, one, other, told.many, told.more), (0, 1))
            # The sum is looked at once more, apart from the program's own.
            if told.many + told.more <= 8:
                sums = both_sums(table, one, other, told.many, told.more)
                self.assertNotEqual(sums[told.many, told.more], 0)
        self.assertIs(told.shows(table, one, other), True)
        return isinstance(told, Apart)

    def test_apart_just_where_the_weights_are_so(self):
        met = [self.check(table, *letters) for table in dice_tables() for letters in two_letters(table)]
        self.assertEqual({True, False}, set(met))

    def test_tables_beside_one_another(self):
        for table, letters in apart_tables():
            for one, other in two_letters(table):
                with self.subTest(table=table, one=one, other=other):
                    told = self.check(table, one, other)
                    if (one < letters) != (other < letters):
                        self.assertTrue(told)

    def test_one_weight_changed_or_a_row_gone(self):
        met = []
        for table, letters in apart_tables():
            for other in spoiled(table):
                met += [self.check(other, 0, letters), self.check(other, letters, 0)]
        self.assertEqual({True, False}, set(met))

    def test_rows_in_another_turn_or_parted(self):
        for table in [table for table, letters in apart_tables()] + dice_tables():
            for one, other in two_letters(table)[:2]:
                told = are_apart(table, one, other)
                for same in same_weights(table)[:6]:
                    self.assertEqual(self.check(same, one, other), told)

    def test_a_row_parted_into_unlike_ones_binds(self):
        table = beside([(2, [0]), (2, [1])], [(2, [0]), (4, [1])])
        self.assertTrue(self.check(table, 0, 1))
        for at, (weight, numbers) in enumerate(table):
            parted = table[:at] + [(1, numbers), (weight - 1, [numbers[0], numbers[1] + 5])] + table[at + 1:]
            self.assertFalse(self.check(parted, 0, 1))

    def test_letters_that_the_first_mixed_sums_do_not_bind(self):
        # By the weights' signs all mixed sums of less than these counts are 0.
        for size, longer in [(2, 2), (2, 20), (3, 4), (4, 3), (5, 5), (6, 6), (13, 3), (20, 2)]:
            early = [(-1) ** place * math.comb(size - 1, place) for place in range(size)]
            late = [(-1) ** place * math.comb(longer - 1, place) for place in range(longer)]
            base = 1 + max(early) * max(late) - min(early) * max(late) - min(late) * max(early)
            table = [
                (base + early[first] * late[second], [first, second])
                for first, second in itertools.product(range(size), range(longer))
            ]
            self.assertFalse(self.check(table, 0, 1))
            told = apart(table, 0, 1)
            self.assertEqual((told.many, told.more), (size - 1, longer - 1))
            # So no other counts within the limits could be told.
            if size * longer <= 25:
                sums = both_sums(table, 0, 1, size - 1, longer - 1)
                bound = [counts for counts, worth in sums.items() if 0 not in counts and worth != 0]
                self.assertEqual(bound, [(size - 1, longer - 1)])

    def test_one_number_alone_is_apart_from_all(self):
        dice = Dice(57)
        for rows in [1, 2, 40]:
            table = [(weight, numbers + [7]) for weight, numbers in dice.table(rows, 3)]
            for letter in range(3):
                self.assertTrue(self.check(table, letter, 3))
                self.assertTrue(self.check(table, 3, letter))

    def test_three_letters_apart_two_by_two(self):
        for size in [3, 4]:
            for one, other in two_letters(even_bits(size)):
                self.assertTrue(self.check(even_bits(size), one, other))

    def test_40_rows_of_unlike_numbers(self):
        table = [(1 + at % 3, [at * at, 100 - at]) for at in range(40)]
        self.assertFalse(self.check(table, 0, 1))
        self.assertFalse(self.check(table, 1, 0))

    def test_by_hand(self):
        for table, one, other, counts in [(BOUND, 0, 1, (1, 1)), (CURVED, 0, 1, (2, 1)), (CURVED, 1, 0, (1, 2))]:
            told = apart(table=table, one=one, other=other)
            self.assertEqual((told.many, told.more), counts)
        self.assertIs(type(apart([(1, [0, 0]), (2, [0, 1]), (2, [1, 0]), (4, [1, 1])], 0, 1)), Apart)

    def test_what_is_told_is_new(self):
        for table in [BOUND, [(1, [0, 0])]]:
            self.assertIsNot(apart(table, 0, 1), apart(table, 0, 1))

    def test_refuses_what_is_no_table_first(self):
        for table in not_tables():
            for one, other in [(0, 1), (0, 0), (None, 5)]:
                with self.subTest(table=id(table), one=one):
                    with self.assertRaises(BadTable):
                        apart(table, one, other)

    def test_refuses_what_are_no_two_unlike_letters(self):
        for letters in [1, 2, 3, 4]:
            for one, other in not_two_letters(letters):
                with self.subTest(letters=letters, one=id(one), other=id(other)):
                    with self.assertRaises(BadLetters):
                        apart([(1, [0] * letters), (2, [1] * letters)], one, other)


if __name__ == "__main__":
    unittest.main()

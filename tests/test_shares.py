"""Promise 2, and what promise 1 says of shares."""

import itertools
import math
import unittest
from fractions import Fraction

from meanloom.errors import BadShare
from meanloom.shares import minus, order, over, plus, share, times
from tests.brute import pair
from tests.strange import GREAT, HUGE, not_numbers, not_shares

NUMBERS = [0, 1, -1, 2, -2, 3, 4, -6, 9, 12, 35, -36, GREAT, -GREAT, 6 * GREAT, 2 ** 200, -(2 ** 199) * 3, 10 ** 61]

SHARES = [
    (0, 1), (1, 1), (-1, 1), (2, 1), (1, 2), (-1, 2), (2, 3), (-2, 3), (3, 2), (5, 6), (-7, 10), (7, 15), (GREAT, 2),
    (-GREAT, 10 ** 40 + 1), (1, GREAT), (GREAT + 1, GREAT), (GREAT, GREAT + 1), (2 ** 200, 3 ** 100), (-(3 ** 100), 2 ** 99),
]

PAIRS_ASKED = [plus, minus, times, over, order]


class ShareTest(unittest.TestCase):
    def check_form(self, told):
        self.assertIs(type(told), tuple)
        self.assertEqual([type(part) for part in told], [int, int])
        self.assertGreater(told[1], 0)
        self.assertEqual(math.gcd(*told), 1)

    def test_made_of_numbers(self):
        for top, bottom in itertools.product(NUMBERS, NUMBERS):
            if bottom != 0:
                with self.subTest(top=top, bottom=bottom):
                    told = share(top, bottom)
                    self.check_form(told)
                    self.assertEqual(told, pair(Fraction(top, bottom)))

    def test_made_by_hand(self):
        self.assertEqual(share(2, 4), (1, 2))
        self.assertEqual(share(2, -4), (-1, 2))
        self.assertEqual(share(-2, -4), (1, 2))
        self.assertEqual(share(0, 5), (0, 1))
        self.assertEqual(share(0, -5), (0, 1))
        self.assertEqual(share(7, 1), (7, 1))
        self.assertEqual(share(-7, -7), (1, 1))
        self.assertEqual(share(bottom=6, top=4), (2, 3))

    def test_made_of_very_great_numbers(self):
        self.assertEqual(share(HUGE * 2, HUGE * 4), (1, 2))
        self.assertEqual(share(-HUGE, 3), (-(3 ** 8999), 1))
        self.assertEqual(share(HUGE, -2 * HUGE - 2), (-HUGE, 2 * HUGE + 2))

    def test_refuses_what_is_no_number(self):
        for value in not_numbers():
            for top, bottom in [(value, 1), (1, value), (value, value), (value, 0)]:
                with self.subTest(top=id(top), bottom=id(bottom)):
                    with self.assertRaises(BadShare):
                        share(top, bottom)

    def test_refuses_0_as_the_bottom(self):
        for top in [0, 1, -1, GREAT, HUGE]:
            with self.assertRaises(BadShare):
                share(top, 0)


class ReckonedTest(unittest.TestCase):
    def test_as_fractions_say(self):
        for one, other in itertools.product(SHARES, SHARES):
            first, second = Fraction(*one), Fraction(*other)
            with self.subTest(one=one, other=other):
                self.assertEqual(plus(one, other), pair(first + second))
                self.assertEqual(minus(one, other), pair(first - second))
                self.assertEqual(times(one, other), pair(first * second))
                if second != 0:
                    self.assertEqual(over(one, other), pair(first / second))
                self.assertEqual(order(one, other), (first > second) - (first < second))

    def test_back_again(self):
        for one, other in itertools.product(SHARES, SHARES):
            self.assertEqual(minus(plus(one, other), other), one)
            self.assertEqual(plus(minus(one, other), other), one)
            if other != (0, 1):
                self.assertEqual(over(times(one, other), other), one)
                self.assertEqual(times(over(one, other), other), one)

    def test_kinds_of_what_is_told(self):
        for one, other in itertools.product(SHARES, SHARES):
            for asked in [plus, minus, times]:
                told = asked(one, other)
                self.assertIs(type(told), tuple)
                self.assertEqual([type(part) for part in told], [int, int])
            self.assertIs(type(order(one, other)), int)

    def test_by_hand(self):
        self.assertEqual(plus((1, 2), (1, 3)), (5, 6))
        self.assertEqual(plus((1, 2), (-1, 2)), (0, 1))
        self.assertEqual(minus((1, 2), (1, 3)), (1, 6))
        self.assertEqual(minus((1, 3), (1, 2)), (-1, 6))
        self.assertEqual(times((2, 3), (-3, 4)), (-1, 2))
        self.assertEqual(times((0, 1), (-3, 4)), (0, 1))
        self.assertEqual(over((1, 2), (-3, 4)), (-2, 3))
        self.assertEqual(over((-1, 2), (-1, 2)), (1, 1))
        self.assertEqual(over((0, 1), (-3, 4)), (0, 1))

    def test_the_order_of_shares_a_hair_apart(self):
        for great in [10 ** 20, 10 ** 60, 10 ** 400]:
            less, more = (great - 1, great), (great, great + 1)
            self.assertEqual(order(less, more), -1)
            self.assertEqual(order(more, less), 1)
            self.assertEqual(order(less, less), 0)
            self.assertEqual(order((-great, great + 1), (1 - great, great)), -1)
            self.assertEqual(order(more, (1, 1)), -1)
            self.assertEqual(order((1, great), (0, 1)), 1)
            self.assertEqual(order((-1, great), (0, 1)), -1)

    def test_equal_shares_told_apart_by_no_object(self):
        self.assertEqual(order((GREAT, 2), (10 ** 60 + 7, 2)), 0)

    def test_very_great_numbers(self):
        self.assertEqual(plus((1, HUGE), (-1, HUGE)), (0, 1))
        self.assertEqual(times((HUGE, 2), (2, HUGE)), (1, 1))
        self.assertEqual(order((HUGE, 2), (HUGE + 2, 2)), -1)

    def test_refuses_what_is_no_share(self):
        for asked in PAIRS_ASKED:
            for value in not_shares():
                for one, other in [(value, (1, 2)), ((1, 2), value), (value, value), (value, (0, 1)), ((0, 1), value)]:
                    with self.subTest(asked=asked.__name__, one=id(one), other=id(other)):
                        with self.assertRaises(BadShare):
                            asked(one, other)

    def test_refuses_over_by_0(self):
        for one in SHARES:
            with self.assertRaises(BadShare):
                over(one, (0, 1))

    def test_names_of_arguments(self):
        self.assertEqual(minus(other=(1, 1), one=(3, 1)), (2, 1))
        self.assertEqual(over(other=(2, 1), one=(3, 1)), (3, 2))
        self.assertEqual(order(other=(2, 1), one=(3, 1)), 1)


if __name__ == "__main__":
    unittest.main()

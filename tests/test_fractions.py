"""Promises [2] and [3]: fractions.py."""

import copy
import math
from fractions import Fraction

from sidecut.fractions import (added, compared, fraction, is_fraction, over, root_of, taken,
                               times)
from tests.kinds import BIG, BIGGER, FRACTIONS, Kinds, value


def nested(kind, depth, core):
    """core within so many lists or tuples."""
    for _ in range(depth):
        core = kind([core])
    return core


class IsFraction(Kinds):
    def test_fractions_are(self):
        for thing in FRACTIONS + [(0, 1), (1, 1), (-1, 1), (-7, 3), (3, 7), (1, BIG), (BIG, 1)]:
            self.assert_truth(is_fraction(thing), True)

    def test_size_is_not_looked_at(self):
        self.assert_truth(is_fraction((10 ** 500 + 1, 10 ** 500)), True)
        self.assert_truth(is_fraction((-10 ** 500, 10 ** 500 + 1)), True)

    def test_not_in_lowest_terms_are_none(self):
        for thing in [(2, 4), (-2, 4), (3, 3), (-3, 3), (6, 9), (0, 2), (0, 999), (10, 5),
                      (2 * BIG, 2 * BIGGER), (BIG * BIGGER, BIG)]:
            self.assert_truth(is_fraction(thing), False)

    def test_second_number_is_at_least_one(self):
        for thing in [(1, 0), (0, 0), (-1, 0), (1, -1), (1, -2), (-1, -2), (0, -1), (BIG, -1)]:
            self.assert_truth(is_fraction(thing), False)

    def test_truths_are_no_numbers(self):
        for thing in [True, False, (True, 1), (1, True), (False, 1), (True, True), (False, True),
                      (3, True), (True, 3), (0, False), (True,)]:
            self.assert_truth(is_fraction(thing), False)

    def test_lists_are_none(self):
        for thing in [[], [1], [1, 2], [0, 1], [1, 2, 3], [(1, 2)], [[1, 2], [3, 4]]]:
            self.assert_truth(is_fraction(thing), False)

    def test_tuples_of_other_lengths_are_none(self):
        for thing in [(), (1,), (1, 2, 3), (1, 1, 1), (1, 2, 3, 4), (0,), (1, 2, None)]:
            self.assert_truth(is_fraction(thing), False)

    def test_nested_ones_are_none(self):
        for thing in [((1, 2),), ((1, 2), (3, 4)), ((1, 2), 3), (1, (2, 3)), ([1], 2), (1, [2]),
                      ((1,), 2), (1, (2,)), ((), ()), ([], 1), (1, [])]:
            self.assert_truth(is_fraction(thing), False)

    def test_texts_and_none_are_none(self):
        for thing in [None, "", "1", "12", "1/2", "ab", (None, 1), (1, None), (None, None),
                      ("1", 2), (1, "2"), ("1", "2"), ("", 1), (1, "")]:
            self.assert_truth(is_fraction(thing), False)

    def test_numbers_alone_are_none(self):
        for thing in [0, 1, -1, 12, BIG]:
            self.assert_truth(is_fraction(thing), False)

    def test_twelve_deep_is_answered(self):
        for core in [1, True, None, "a", (1, 2)]:
            for depth in range(1, 13):
                for kind in (list, tuple):
                    self.assert_truth(is_fraction(nested(kind, depth, core)), False)
        self.assert_truth(is_fraction((nested(list, 11, 1), nested(tuple, 11, 1))), False)

    def test_what_is_handed_in_is_not_changed(self):
        for thing in [[1, 2], [2, 4], ([1], [2]), [[0, 1], ["a", None, True]], [[[]]]]:
            before = copy.deepcopy(thing)
            is_fraction(thing)
            self.assertEqual(thing, before)

    def test_what_is_handed_in_is_not_kept(self):
        inner = [1]
        thing = (inner, 2)
        self.assert_truth(is_fraction(thing), False)
        inner.append(2)
        self.assert_truth(is_fraction(thing), False)
        self.assertEqual(thing, ([1, 2], 2))


class MadeOfTwoNumbers(Kinds):
    def test_plain_ones(self):
        self.assertEqual(fraction(1, 2), (1, 2))
        self.assertEqual(fraction(2, 4), (1, 2))
        self.assertEqual(fraction(6, 3), (2, 1))
        self.assertEqual(fraction(-6, 4), (-3, 2))

    def test_nought(self):
        for d in (1, 2, 7, -1, -7, BIG, -BIG):
            self.assert_fraction(fraction(0, d))
            self.assertEqual(fraction(0, d), (0, 1))

    def test_divisor_below_nought(self):
        self.assertEqual(fraction(1, -2), (-1, 2))
        self.assertEqual(fraction(-1, -2), (1, 2))
        self.assertEqual(fraction(6, -4), (-3, 2))
        self.assertEqual(fraction(-6, -4), (3, 2))
        self.assertEqual(fraction(5, -1), (-5, 1))

    def test_all_small_ones(self):
        for n in range(-30, 31):
            for d in list(range(-30, 0)) + list(range(1, 31)):
                self.assert_is_fraction(fraction(n, d), Fraction(n, d))

    def test_large_ones(self):
        for n in (BIG, -BIG, BIG * BIGGER, 6 ** 200, -10 ** 90):
            for d in (BIGGER, -BIGGER, BIG, 10 ** 60, -15 ** 80, 3):
                self.assert_is_fraction(fraction(n, d), Fraction(n, d))


class Reckoned(Kinds):
    def test_plain_ones(self):
        self.assertEqual(added((1, 2), (1, 3)), (5, 6))
        self.assertEqual(taken((1, 2), (1, 3)), (1, 6))
        self.assertEqual(times((2, 3), (3, 4)), (1, 2))
        self.assertEqual(over((2, 3), (4, 3)), (1, 2))

    def test_what_is_told_is_in_lowest_terms(self):
        self.assertEqual(added((1, 6), (1, 3)), (1, 2))
        self.assertEqual(added((1, 2), (1, 2)), (1, 1))
        self.assertEqual(taken((5, 6), (1, 3)), (1, 2))
        self.assertEqual(taken((7, 9), (7, 9)), (0, 1))
        self.assertEqual(times((0, 1), (5, 7)), (0, 1))
        self.assertEqual(over((0, 1), (-5, 7)), (0, 1))

    def test_over_one_below_nought(self):
        self.assertEqual(over((1, 2), (-3, 4)), (-2, 3))
        self.assertEqual(over((-1, 2), (-3, 4)), (2, 3))
        self.assertEqual(over((1, 1), (-1, BIG)), (-BIG, 1))

    def test_all_pairs(self):
        for one in FRACTIONS:
            for other in FRACTIONS:
                a, b = value(one), value(other)
                self.assert_is_fraction(added(one, other), a + b)
                self.assert_is_fraction(taken(one, other), a - b)
                self.assert_is_fraction(times(one, other), a * b)
                if b != 0:
                    self.assert_is_fraction(over(one, other), a / b)

    def test_asked_again_all_is_told_the_same(self):
        for deed in (added, taken, times, over, compared):
            first = deed((BIG, 7), (-3, 4))
            deed((5, 1), (1, 9))
            self.assertEqual(deed((BIG, 7), (-3, 4)), first)
        self.assertEqual(fraction(6, 4), fraction(6, 4))
        self.assertEqual(root_of((4, 9)), root_of((4, 9)))

    def test_what_was_told_may_be_handed_in_again(self):
        total, power = (0, 1), (1, 1)
        for _ in range(200):
            power = over(power, (-3, 2))
            total = added(total, power)
        asked = sum(Fraction(-2, 3) ** k for k in range(1, 201))
        self.assert_is_fraction(total, asked)


class Compared(Kinds):
    def test_plain_ones(self):
        self.assertEqual(compared((1, 3), (1, 2)), -1)
        self.assertEqual(compared((1, 2), (1, 2)), 0)
        self.assertEqual(compared((1, 2), (1, 3)), 1)

    def test_around_nought(self):
        self.assertEqual(compared((-1, 2), (-1, 3)), -1)
        self.assertEqual(compared((-1, 3), (-1, 2)), 1)
        self.assertEqual(compared((-1, BIG), (0, 1)), -1)
        self.assertEqual(compared((0, 1), (0, 1)), 0)
        self.assertEqual(compared((1, BIG), (0, 1)), 1)

    def test_all_pairs(self):
        for one in FRACTIONS:
            for other in FRACTIONS:
                a, b = value(one), value(other)
                told = compared(one, other)
                self.assert_number(told)
                self.assertEqual(told, (a > b) - (a < b))

    def test_neighbours_of_many_figures(self):
        one, other = (BIG, BIG + 1), (BIG + 1, BIG + 2)
        self.assertEqual(compared(one, other), -1)
        self.assertEqual(compared(other, one), 1)
        self.assertEqual(compared(one, one), 0)


def own_root(one):
    """What root_of is asked to tell, by Python's own roots."""
    n, d = one
    if n < 0:
        return None
    top, bottom = math.isqrt(n), math.isqrt(d)
    if (top * top, bottom * bottom) != (n, d):
        return None
    return (top, bottom)


class RootOf(Kinds):
    def test_plain_ones(self):
        self.assertEqual(root_of((4, 1)), (2, 1))
        self.assertEqual(root_of((1, 4)), (1, 2))
        self.assertEqual(root_of((25, 9)), (5, 3))

    def test_nought_and_one(self):
        self.assert_fraction(root_of((0, 1)))
        self.assertEqual(root_of((0, 1)), (0, 1))
        self.assertEqual(root_of((1, 1)), (1, 1))

    def test_below_nought_there_is_none(self):
        for one in [(-1, 1), (-4, 1), (-4, 9), (-1, 4), (-BIG * BIG, 1)]:
            self.assertIsNone(root_of(one))

    def test_without_a_root_there_is_none(self):
        for one in [(2, 1), (1, 2), (4, 3), (3, 4), (8, 9), (9, 8), (2, 3), (99, 100), (8, 1)]:
            self.assertIsNone(root_of(one))

    def test_all_small_ones(self):
        for n in range(-3, 130):
            for d in range(1, 130):
                if math.gcd(n, d) == 1:
                    told = root_of((n, d))
                    self.assertEqual(told, own_root((n, d)), (n, d))
                    if told is not None:
                        self.assert_fraction(told)

    def test_each_square_has_its_root(self):
        for one in FRACTIONS:
            n, d = one
            self.assert_is_fraction(root_of((n * n, d * d)), abs(value(one)))

    def test_around_squares_of_many_figures(self):
        for root in (2 ** 26 + 1, 2 ** 32, 10 ** 30 + 1, BIG, BIGGER, 2 ** 512 - 1, 10 ** 900 + 7):
            square = root * root
            self.assertEqual(root_of((square, 1)), (root, 1))
            self.assertEqual(root_of((1, square)), (1, root))
            for off in (-1, 1, 2 * root, -2 * root):
                self.assertIsNone(root_of((square + off, 1)))
                self.assertIsNone(root_of((1, square + off)))

    def test_about_each_power_of_two(self):
        for bits in range(1, 130):
            for n in (2 ** bits - 1, 2 ** bits, 2 ** bits + 1):
                self.assertEqual(root_of((n, 1)), own_root((n, 1)))

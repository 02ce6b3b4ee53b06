"""Promises [2] and [4]: points.py."""

from sidecut.fractions import is_fraction
from sidecut.points import (cross, dot, flipped, left_of, length_of, minus, plus, right_of, scaled,
                            unit_of)
from tests.kinds import BIG, BIGGER, FRACTIONS, Kinds, value, whole

NOUGHT = whole(0, 0)
# Each seventh with each fifth: enough unlike pairs, in little time.
VECTORS = ([(x, y) for x in FRACTIONS[::7] for y in FRACTIONS[::5]]
           + [((BIG, 1), (-BIG, BIGGER)), ((-1, BIGGER), (BIGGER, BIG)), NOUGHT])


class Together(Kinds):
    def test_plain_ones(self):
        one, other = ((1, 2), (3, 1)), ((1, 3), (-5, 1))
        self.assertEqual(plus(one, other), ((5, 6), (-2, 1)))
        self.assertEqual(minus(one, other), ((1, 6), (8, 1)))
        self.assertEqual(minus(other, one), ((-1, 6), (-8, 1)))
        self.assertEqual(dot(one, other), (-89, 6))
        self.assertEqual(cross(one, other), (-7, 2))
        self.assertEqual(cross(other, one), (7, 2))

    def test_all_pairs(self):
        for one in VECTORS:
            for other in VECTORS:
                (a, b), (c, d) = map(value, one), map(value, other)
                self.assert_is_vector(plus(one, other), a + c, b + d)
                self.assert_is_vector(minus(one, other), a - c, b - d)
                self.assert_is_fraction(dot(one, other), a * c + b * d)
                self.assert_is_fraction(cross(one, other), a * d - b * c)

    def test_with_nought(self):
        for one in VECTORS:
            self.assertEqual(plus(one, NOUGHT), one)
            self.assertEqual(minus(one, NOUGHT), one)
            self.assertEqual(minus(one, one), NOUGHT)
            self.assertEqual(dot(one, NOUGHT), (0, 1))
            self.assertEqual(cross(one, NOUGHT), (0, 1))

    def test_cross_is_above_nought_to_the_left(self):
        ahead = whole(2, 1)
        for left in (whole(0, 1), whole(-1, 2), whole(-2, 0), whole(-5, -2), whole(3, 2)):
            self.assertGreater(cross(ahead, left)[0], 0)
            self.assertLess(cross(left, ahead)[0], 0)
        for along in (whole(4, 2), whole(-2, -1)):
            self.assertEqual(cross(ahead, along), (0, 1))


class Scaled(Kinds):
    def test_plain_ones(self):
        self.assertEqual(scaled(whole(3, -4), (1, 2)), ((3, 2), (-2, 1)))
        self.assertEqual(scaled(((1, 2), (0, 1)), (-2, 1)), whole(-1, 0))

    def test_by_nought_and_one(self):
        for vector in VECTORS:
            self.assertEqual(scaled(vector, (0, 1)), NOUGHT)
            self.assertEqual(scaled(vector, (1, 1)), vector)

    def test_all(self):
        for vector in VECTORS:
            for by in FRACTIONS:
                x, y = map(value, vector)
                self.assert_is_vector(scaled(vector, by), x * value(by), y * value(by))


class LeftOf(Kinds):
    def test_quarter_turns(self):
        self.assertEqual(left_of(whole(1, 0)), whole(0, 1))
        self.assertEqual(left_of(whole(0, 1)), whole(-1, 0))
        self.assertEqual(left_of(whole(-1, 0)), whole(0, -1))
        self.assertEqual(left_of(whole(0, -1)), whole(1, 0))
        self.assertEqual(left_of(NOUGHT), NOUGHT)

    def test_all(self):
        for vector in VECTORS:
            x, y = map(value, vector)
            self.assert_is_vector(left_of(vector), -y, x)


class RightOfAndFlipped(Kinds):
    def test_all(self):
        for vector in VECTORS:
            x, y = map(value, vector)
            self.assert_is_vector(right_of(vector), y, -x)
            self.assert_is_vector(flipped(vector), -x, y)


class LengthOf(Kinds):
    def test_plain_ones(self):
        self.assertEqual(length_of(whole(3, 4)), (5, 1))
        self.assertEqual(length_of(whole(-5, 12)), (13, 1))
        self.assertEqual(length_of(((3, 5), (-4, 5))), (1, 1))
        self.assertEqual(length_of(((-1, 2), (0, 1))), (1, 2))
        self.assertEqual(length_of(((3, 4), (1, 1))), (5, 4))

    def test_of_nought(self):
        self.assert_fraction(length_of(NOUGHT))
        self.assertEqual(length_of(NOUGHT), (0, 1))

    def test_without_a_length(self):
        for vector in (whole(1, 1), whole(1, 2), whole(-3, 3), ((1, 2), (1, 3)), whole(BIG, BIG)):
            self.assertIsNone(length_of(vector))

    def test_many_figures(self):
        self.assertEqual(length_of(((3 * BIG, BIGGER), (-4 * BIG, BIGGER))), (5 * BIG, BIGGER))
        self.assertIsNone(length_of(whole(3 * BIG, 4 * BIG + 1)))


class UnitOf(Kinds):
    def test_plain_ones(self):
        self.assertEqual(unit_of(whole(3, 4)), ((3, 5), (4, 5)))
        self.assertEqual(unit_of(whole(0, -7)), whole(0, -1))
        self.assertEqual(unit_of(((-1, 3), (0, 1))), whole(-1, 0))
        self.assertEqual(unit_of(((-5, 7), (12, 7))), ((-5, 13), (12, 13)))

    def test_of_nought_there_is_none(self):
        self.assertIsNone(unit_of(NOUGHT))

    def test_without_a_length_there_is_none(self):
        for vector in (whole(1, 1), whole(-1, 2), ((1, 2), (1, 3))):
            self.assertIsNone(unit_of(vector))

    def test_many_figures(self):
        told = unit_of(((-3 * BIG, BIGGER), (4 * BIG, BIGGER)))
        self.assertEqual(told, ((-3, 5), (4, 5)))

    def test_each_has_length_one_and_goes_the_same_way(self):
        for a in range(-6, 7):
            for b in range(1, 7):
                x, y = a * a - b * b, 2 * a * b
                for scale in ((1, 1), (2, 3), (-7, 4), (BIG, BIGGER)):
                    vector = scaled(whole(x, y), scale)
                    unit = unit_of(vector)
                    self.assert_vector(unit)
                    self.assertEqual(dot(unit, unit), (1, 1))
                    self.assertEqual(cross(unit, vector), (0, 1))
                    self.assertGreater(dot(unit, vector)[0], 0)


class AskedAgain(Kinds):
    def test_all_is_told_the_same(self):
        one, other = ((3, 7), (-4, 7)), ((BIG, 3), (1, BIGGER))
        for deed in (plus, minus, dot, cross):
            first = deed(one, other)
            deed(other, one)
            self.assertEqual(deed(one, other), first)
        for deed in (left_of, length_of, unit_of):
            first = deed(one)
            deed(other)
            self.assertEqual(deed(one), first)
        self.assertEqual(scaled(one, (5, 2)), scaled(one, (5, 2)))

    def test_parts_told_are_fractions(self):
        self.assert_truth(is_fraction(plus(whole(1, 2), whole(3, 4))[0]), True)
        self.assert_truth(is_fraction(plus(whole(1, 2), whole(3, 4))), False)

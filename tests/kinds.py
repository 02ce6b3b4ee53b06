"""What the tests share: checks of what is told, by Python's own means, and samples."""

import math
import unittest
from fractions import Fraction

BIG = 10 ** 70 + 33
BIGGER = 7 ** 150 * 10 ** 20 + 1

SMALL = sorted({(f.numerator, f.denominator)
                for f in (Fraction(n, d) for n in range(-5, 6) for d in range(1, 6))})
LARGE = [(BIG, 1), (-BIG, BIGGER), (BIGGER, BIG), (-1, BIGGER), (9999, 999 * 1000 + 1),
         (-9999, 998), (2 ** 521 - 1, 2 ** 300)]
FRACTIONS = SMALL + [(f.numerator, f.denominator) for f in (Fraction(n, d) for n, d in LARGE)]


def value(one):
    """A told fraction as Python's own."""
    return Fraction(one[0], one[1])


def whole(x, y):
    """The point of two whole numbers."""
    return ((x, 1), (y, 1))


class Kinds(unittest.TestCase):
    """Checks that hold for the very kinds: True is no number, a list no tuple."""

    def assert_number(self, thing):
        self.assertIs(type(thing), int)

    def assert_truth(self, thing, asked):
        self.assertIs(type(thing), bool)
        self.assertIs(thing, asked)

    def assert_fraction(self, thing):
        self.assertIs(type(thing), tuple)
        self.assertEqual(len(thing), 2)
        self.assert_number(thing[0])
        self.assert_number(thing[1])
        self.assertGreaterEqual(thing[1], 1)
        self.assertEqual(math.gcd(thing[0], thing[1]), 1)

    def assert_vector(self, thing):
        self.assertIs(type(thing), tuple)
        self.assertEqual(len(thing), 2)
        self.assert_fraction(thing[0])
        self.assert_fraction(thing[1])

    def assert_is_fraction(self, thing, asked):
        """thing is the fraction that Python's own asked is."""
        self.assert_fraction(thing)
        self.assertEqual(thing, (asked.numerator, asked.denominator))

    def assert_is_vector(self, thing, x, y):
        """thing is the vector of which Python's own x and y are the parts."""
        self.assert_vector(thing)
        self.assert_is_fraction(thing[0], x)
        self.assert_is_fraction(thing[1], y)

"""What the tests share: checks of what is told, by Python's own means, and samples."""

import math
import unittest
from fractions import Fraction

BIG = 10 ** 70 + 33
BIGGER = 7 ** 150 * 10 ** 20 + 1

SMALL = sorted({(f.numerator, f.denominator)
                for f in (Fraction(n, d) for n in range(-5, 6) for d in range(1, 6))})
LARGE = [(BIG, 1), (-BIG, BIGGER), (BIGGER, BIG), (-1, BIGGER), (9999, 999 * 1000 + 1),
         (-9999, 998), (2 ** 521 - 1, 2 ** 300)]
FRACTIONS = SMALL + [(f.numerator, f.denominator) for f in (Fraction(n, d) for n, d in LARGE)]


def value(one):
    """A told fraction as Python's own."""
    return Fraction(one[0], one[1])


def whole(x, y):
    """The point of two whole numbers."""
    return ((x, 1), (y, 1))


def ratio(one):
    """The fraction of one of Python's own, or of its text."""
    one = Fraction(one)
    return (one.numerator, one.denominator)


def point(x, y):
    """The point of two of Python's own fractions, or of their texts."""
    return (ratio(x), ratio(y))


def pair(vector):
    """A told vector as a pair of Python's own fractions."""
    return (value(vector[0]), value(vector[1]))


def unit(tangent):
    """The unit whose half turn from (1, 0) has that tangent."""
    t = Fraction(tangent)
    return point((1 - t * t) / (1 + t * t), 2 * t / (1 + t * t))


def side(x, y):
    """A side to there."""
    return ("side", point(x, y))


def arc(mx, my, x, y, turn):
    """An arc round the one point to the other."""
    return ("arc", point(mx, my), point(x, y), turn)


UNITS = [whole(1, 0), whole(0, 1), whole(-1, 0), whole(0, -1), ((3, 5), (4, 5)), ((-4, 5), (3, 5)),
         ((-5, 13), (-12, 13)), ((8, 17), (-15, 17)), unit("1/100"), unit("-1/100"),
         unit("-99/100"), unit(99), unit(-99), unit(Fraction(1, BIG)), unit(Fraction(BIGGER, BIG))]

ORIGIN = whole(0, 0)
SQUARE = (ORIGIN, (side(4, 0), side(4, 4), side(0, 4), side(0, 0)))
RIGHT_SQUARE = (ORIGIN, (side(0, 4), side(4, 4), side(4, 0), side(0, 0)))
MID_SQUARE = (whole(2, 0), (side(4, 0), side(4, 4), side(0, 4), side(0, 0), side(2, 0)))
THERE_AND_BACK = (ORIGIN, (side(4, 3), side(0, 0)))
BACK = (ORIGIN, (side(5, 0), side(2, 0), side(2, 3)))
ONE_SIDE = (point("1/2", "-1/3"), (side("7/2", "11/3"),))
STRAIGHT = (ORIGIN, (side(3, 4), side(6, 8), side(9, 4)))
QUARTER_LEFT = (whole(4, 0), (arc(0, 0, 0, 4, "left"),))
QUARTER_RIGHT = (whole(0, 4), (arc(0, 0, 4, 0, "right"),))
HALF_LEFT = (whole(4, 0), (arc(0, 0, -4, 0, "left"),))
HALF_RIGHT = (whole(4, 0), (arc(0, 0, -4, 0, "right"),))
MOST_LEFT = (whole(4, 0), (arc(0, 0, 0, -4, "left"),))
MOST_RIGHT = (whole(4, 0), (arc(0, 0, 0, 4, "right"),))
NEARLY_WHOLE = (whole(5, 0), (arc(0, 0, "24/5", "-7/5", "left"),))
LITTLE = (whole(13, 0), (arc(0, 0, "312/25", "91/25", "left"),))
LENS = (whole(3, 0), (arc(0, -4, -3, 0, "left"), arc(0, 4, 3, 0, "left")))
PAIR_OF_HALVES = (whole(2, 0), (arc(0, 0, -2, 0, "left"), arc(0, 0, 2, 0, "left")))
SLOT = (ORIGIN, (side(6, 0), arc(6, 2, 6, 4, "left"), side(0, 4), arc(0, 2, 0, 0, "left")))
WINDING = (point("-7/2", 1), (side("-1/2", 5), arc("-1/2", 3, "11/10", "9/5", "right"), side(5, "9/5"),
                              arc(5, "14/5", 6, "14/5", "left"), side(6, 0),
                              arc("15/2", 0, 9, 0, "right"), side(9, "-13/5"), side("-3/65", "-13/5")))
CUSP = (ORIGIN, (arc(0, 3, 3, 3, "left"), arc(0, 3, 0, 0, "right")))
TWELVE = (ORIGIN, tuple(side(x, y) for x, y in [
    (3, 4), (8, 16), (8, 20), ("23/2", 20), ("23/2", 18), ("35/2", 10), (10, 10), (10, "25/2"),
    (4, "9/2"), (0, "15/2"), (0, 3), (0, 0)]))

PATHS = {
    "square": SQUARE, "right square": RIGHT_SQUARE, "mid square": MID_SQUARE,
    "there and back": THERE_AND_BACK, "back": BACK, "one side": ONE_SIDE, "straight": STRAIGHT,
    "quarter left": QUARTER_LEFT, "quarter right": QUARTER_RIGHT, "half left": HALF_LEFT,
    "half right": HALF_RIGHT, "most left": MOST_LEFT, "most right": MOST_RIGHT,
    "nearly whole": NEARLY_WHOLE, "little": LITTLE, "lens": LENS, "two halves": PAIR_OF_HALVES,
    "slot": SLOT, "winding": WINDING, "cusp": CUSP, "twelve": TWELVE,
}
CLOSED = ("square", "right square", "mid square", "there and back", "lens", "two halves", "slot",
          "cusp", "twelve")


def begins(path):
    """The points at which the pieces begin, in order."""
    found = [path[0]]
    for piece in path[1]:
        found.append(piece[-1] if piece[0] == "side" else piece[2])
    return found[:-1]


def by_turns(one, by):
    """A pair turned as (1, 0) would be turned to the other pair."""
    (x, y), (c, s) = one, by
    return (x * c - y * s, x * s + y * c)


def turn_between(one, other):
    """The turn to the left from a pair to another one: whole quarters, and the rest's tangent."""
    (a, b), (c, d) = one, other
    along, across = a * c + b * d, a * d - b * c
    for quarters in range(4):
        if along > 0 and across >= 0:
            return (quarters, across / along)
        along, across = across, -along
    raise AssertionError("a vector of no length")


def own_quarters(one, other, steps):
    """The pairs that quarters_between is asked to tell of two pairs, by whole quarters and a rest."""
    s, found = Fraction(steps), [one]

    def go(h):
        begin = found[-1]
        for k in range(1, steps + 1):
            low = s * s + k * k * h * h
            found.append(by_turns(begin, ((s * s - k * k * h * h) / low, 2 * s * k * h / low)))

    for _ in range(turn_between(one, other)[0]):
        go(Fraction(1))
    (a, b), (c, d) = found[-1], other
    if found[-1] != other:
        go((a * d - b * c) / (1 + a * c + b * d))
    return found


def own_units(one, other, steps):
    """The pairs that units_between is asked to tell of two pairs."""
    both = set(own_quarters(one, other, steps))
    for x, y in own_quarters((-other[0], other[1]), (-one[0], one[1]), steps):
        both.add((-x, y))
    return sorted(both, key=lambda each: turn_between(one, each))


def arc_pairs(path, number):
    """Middle, radius and both ends' units of an arc as pairs, by its turn to the left."""
    _, middle, to, turn = path[1][number]
    (mx, my), (x, y), (bx, by) = pair(middle), pair(to), pair(begins(path)[number])
    square = (x - mx) ** 2 + (y - my) ** 2
    radius = Fraction(math.isqrt(square.numerator), math.isqrt(square.denominator))
    ends = [((bx - mx) / radius, (by - my) / radius), ((x - mx) / radius, (y - my) / radius)]
    return (mx, my), radius, ends if turn == "left" else ends[::-1]


def points_on(path):
    """Pairs on the path, both ends of each piece among them."""
    found = []
    for number, piece in enumerate(path[1]):
        if piece[0] == "side":
            (px, py), (qx, qy) = pair(begins(path)[number]), pair(piece[1])
            found += [(px + (qx - px) * k / 6, py + (qy - py) * k / 6) for k in range(7)]
        else:
            (mx, my), radius, ends = arc_pairs(path, number)
            found += [(mx + radius * x, my + radius * y) for x, y in own_quarters(*ends, 7)]
    return found


def about_way(path, x, y):
    """How far about x, y is away from the path, by Python's floats."""
    ways = []
    for number, piece in enumerate(path[1]):
        px, py = map(float, pair(begins(path)[number]))
        if piece[0] == "side":
            qx, qy = map(float, pair(piece[1]))
            part = ((x - px) * (qx - px) + (y - py) * (qy - py)) / ((qx - px) ** 2 + (qy - py) ** 2)
            part = min(1.0, max(0.0, part))
            ways.append(math.hypot(x - px - part * (qx - px), y - py - part * (qy - py)))
        else:
            (mx, my), radius, ends = arc_pairs(path, number)
            mx, my, radius = float(mx), float(my), float(radius)
            low, high = (math.atan2(float(b), float(a)) for a, b in ends)
            angle = (math.atan2(y - my, x - mx) - low) % math.tau
            if angle <= (high - low) % math.tau:
                ways.append(abs(math.hypot(x - mx, y - my) - radius))
            ways += [math.hypot(x - mx - radius * float(a), y - my - radius * float(b)) for a, b in ends]
    return min(ways)


class Kinds(unittest.TestCase):
    """Checks that hold for the very kinds: True is no number, a list no tuple."""

    def assert_number(self, thing):
        self.assertIs(type(thing), int)

    def assert_truth(self, thing, asked):
        self.assertIs(type(thing), bool)
        self.assertIs(thing, asked)

    def assert_fraction(self, thing):
        self.assertIs(type(thing), tuple)
        self.assertEqual(len(thing), 2)
        self.assert_number(thing[0])
        self.assert_number(thing[1])
        self.assertGreaterEqual(thing[1], 1)
        self.assertEqual(math.gcd(thing[0], thing[1]), 1)

    def assert_vector(self, thing):
        self.assertIs(type(thing), tuple)
        self.assertEqual(len(thing), 2)
        self.assert_fraction(thing[0])
        self.assert_fraction(thing[1])

    def assert_is_fraction(self, thing, asked):
        """thing is the fraction that Python's own asked is."""
        self.assert_fraction(thing)
        self.assertEqual(thing, (asked.numerator, asked.denominator))

    def assert_is_vector(self, thing, x, y):
        """thing is the vector of which Python's own x and y are the parts."""
        self.assert_vector(thing)
        self.assert_is_fraction(thing[0], x)
        self.assert_is_fraction(thing[1], y)

    def assert_unit(self, thing):
        self.assert_vector(thing)
        x, y = pair(thing)
        self.assertEqual(x * x + y * y, 1)

    def assert_units(self, thing, asked):
        """thing is the list of the units that are those pairs."""
        self.assertIs(type(thing), list)
        for each in thing:
            self.assert_unit(each)
        self.assertEqual([pair(each) for each in thing], asked)

    def assert_path(self, thing):
        self.assertIs(type(thing), tuple)
        self.assertEqual(len(thing), 2)
        self.assert_vector(thing[0])
        self.assertIs(type(thing[1]), tuple)
        for piece in thing[1]:
            self.assertIs(type(piece), tuple)
            self.assertIs(type(piece[0]), str)
            self.assertIn((piece[0], len(piece)), [("side", 2), ("arc", 4)])
            for each in piece[1:3]:
                self.assert_vector(each)
            if piece[0] == "arc":
                self.assertIs(type(piece[3]), str)
                self.assertIn(piece[3], ("left", "right"))

    def assert_block(self, thing):
        self.assertIs(type(thing), tuple)
        self.assertEqual(len(thing), 4)
        word, number, corners, marks = thing
        self.assertIs(type(word), str)
        self.assert_number(number)
        self.assertIs(type(corners), tuple)
        self.assertGreaterEqual(len(corners), 3)
        for corner in corners:
            self.assert_vector(corner)
        self.assertIs(type(marks), str)
        self.assertEqual(len(marks), len(corners))
        self.assertLessEqual(set(marks), set("lrbe-"))

"""Promises [2] and [7]: near.py."""

import copy
import random
from fractions import Fraction

from sidecut.near import apart, is_near
from sidecut.paths import moved, turned_about
from tests.kinds import (BIG, BIGGER, HALF_LEFT, HALF_RIGHT, LITTLE, MOST_LEFT, MOST_RIGHT, ONE_SIDE,
                         ORIGIN, PATHS, QUARTER_LEFT, QUARTER_RIGHT, SLOT, SQUARE, WINDING, Kinds,
                         about_way, arc, begins, pair, point, points_on, ratio, side, whole)

TINY = Fraction(1, BIG)
FLAT = (ORIGIN, (side(4, 0),))
SLOPE = (whole(1, 1), (side(4, 5), side(4, 9)))


class Ways(Kinds):
    def assert_way(self, path, x, y, way):
        """The point is just so far away, way a fraction above 0: not less, but less than any more."""
        way = Fraction(way)
        at = point(x, y)
        self.assert_truth(is_near(path, at, ratio(way)), False)
        self.assert_truth(is_near(path, at, ratio(way - TINY)), False)
        self.assert_truth(is_near(path, at, ratio(way + TINY)), True)
        self.assert_truth(is_near(path, at, ratio(way * 3)), True)
        self.assert_truth(is_near(path, at, ratio(way / 2)), False)

    def assert_on(self, path, x, y):
        """The point is on the path: no way off is less than 0, but it is less than any other."""
        at = point(x, y)
        self.assert_truth(is_near(path, at, (0, 1)), False)
        self.assert_truth(is_near(path, at, ratio(TINY)), True)
        self.assert_truth(is_near(path, at, (7, 2)), True)


class Apart(Kinds):
    def test_beside(self):
        self.assertEqual(apart(FLAT, 0, whole(1, 3)), (9, 1))
        self.assertEqual(apart(FLAT, 0, whole(3, -3)), (9, 1))
        self.assertEqual(apart(FLAT, 0, point("1/2", "1/3")), (1, 9))
        # At the side's middle, and 5 to its right.
        self.assertEqual(apart(SLOPE, 0, point("13/2", 0)), (25, 1))

    def test_on_it(self):
        for at in (ORIGIN, whole(4, 0), whole(1, 0), point("7/2", 0)):
            self.assertEqual(apart(FLAT, 0, at), (0, 1))

    def test_behind_its_ends(self):
        self.assertEqual(apart(FLAT, 0, whole(-2, 0)), (4, 1))
        self.assertEqual(apart(FLAT, 0, whole(6, 0)), (4, 1))
        self.assertEqual(apart(FLAT, 0, whole(-1, 1)), (2, 1))
        self.assertEqual(apart(FLAT, 0, whole(7, -2)), (13, 1))

    def test_beside_its_ends(self):
        self.assertEqual(apart(FLAT, 0, whole(0, 5)), (25, 1))
        self.assertEqual(apart(FLAT, 0, whole(4, -5)), (25, 1))

    def test_of_the_side_of_that_number_alone(self):
        self.assertEqual(apart(SLOPE, 1, whole(4, 7)), (0, 1))
        self.assertEqual(apart(SLOPE, 0, whole(4, 7)), (4, 1))
        self.assertEqual(apart(SLOPE, 1, whole(1, 1)), (25, 1))
        self.assertEqual([apart(SQUARE, k, whole(1, 1)) for k in range(4)], [(1, 1), (9, 1), (9, 1), (1, 1)])
        self.assertEqual(apart(SLOT, 2, whole(3, 1)), (9, 1))

    def test_any_size(self):
        self.assertEqual(apart(FLAT, 0, ((BIG, 1), (0, 1))), ((BIG - 4) ** 2, 1))
        self.assertEqual(apart(FLAT, 0, ((1, BIG), (1, BIGGER))), (1, BIGGER ** 2))

    def test_all(self):
        asker = random.Random(7)
        for path in PATHS.values():
            for number, piece in enumerate(path[1]):
                if piece[0] == "side":
                    p, q = pair(begins(path)[number]), pair(piece[1])
                    for _ in range(20):
                        x, y = (Fraction(asker.randint(-90, 90), asker.randint(1, 9)) for _ in (0, 1))
                        part = ((x - p[0]) * (q[0] - p[0]) + (y - p[1]) * (q[1] - p[1])) / (
                            (q[0] - p[0]) ** 2 + (q[1] - p[1]) ** 2)
                        part = max(Fraction(0), min(Fraction(1), part))
                        asked = ((x - p[0] - part * (q[0] - p[0])) ** 2
                                 + (y - p[1] - part * (q[1] - p[1])) ** 2)
                        self.assert_is_fraction(apart(path, number, point(x, y)), asked)


class NearSides(Ways):
    def test_beside(self):
        self.assert_way(FLAT, 1, 3, 3)
        self.assert_way(FLAT, 3, "-1/3", "1/3")
        self.assert_way(ONE_SIDE, "1/2", "11/3", "12/5")

    def test_on_it(self):
        self.assert_on(FLAT, 2, 0)
        self.assert_on(FLAT, 0, 0)
        self.assert_on(FLAT, 4, 0)
        self.assert_on(ONE_SIDE, 2, "5/3")

    def test_behind_its_ends(self):
        self.assert_way(FLAT, -3, 0, 3)
        self.assert_way(FLAT, -3, 4, 5)
        self.assert_way(FLAT, 7, -4, 5)

    def test_the_nearest_piece_counts(self):
        self.assert_way(SQUARE, 1, 2, 1)
        self.assert_way(SQUARE, 2, 2, 2)
        self.assert_way(SQUARE, 7, 8, 5)
        self.assert_way(SQUARE, 2, 5, 1)
        self.assert_way(SLOT, 3, 2, 2)

    def test_a_way_that_is_no_fraction(self):
        at = whole(-1, -1)
        self.assert_truth(is_near(FLAT, at, ratio("141421356237/100000000000")), False)
        self.assert_truth(is_near(FLAT, at, ratio("141421356238/100000000000")), True)


class NearArcs(Ways):
    def test_on_it_and_at_its_ends(self):
        for path in (QUARTER_LEFT, QUARTER_RIGHT):
            self.assert_on(path, 4, 0)
            self.assert_on(path, 0, 4)
            self.assert_on(path, "12/5", "16/5")
        for path in (MOST_LEFT, MOST_RIGHT):
            self.assert_on(path, "-12/5", "-16/5" if path == MOST_LEFT else "16/5")
        self.assert_on(HALF_LEFT, 0, 4)
        self.assert_on(HALF_RIGHT, 0, -4)

    def test_outside_and_inside(self):
        for path in (QUARTER_LEFT, QUARTER_RIGHT):
            self.assert_way(path, 3, 4, 1)
            self.assert_way(path, "6/5", "8/5", 2)
            self.assert_way(path, 6, 8, 6)
            self.assert_way(path, 9, 0, 5)
            self.assert_way(path, 0, 1, 3)

    def test_at_its_middle(self):
        for path in (QUARTER_LEFT, QUARTER_RIGHT, HALF_LEFT, HALF_RIGHT, MOST_LEFT, MOST_RIGHT):
            self.assert_way(path, 0, 0, 4)
        self.assert_way(LITTLE, 0, 0, 13)

    def test_on_a_ray_through_its_gap(self):
        # Each nearest to an end: of the circle a point is nearer, but not of the arc.
        self.assert_way(QUARTER_LEFT, 4, -3, 3)
        self.assert_way(QUARTER_RIGHT, -3, 4, 3)
        self.assert_way(QUARTER_LEFT, 0, -3, 5)
        self.assert_way(QUARTER_RIGHT, 0, -3, 5)
        self.assert_way(HALF_LEFT, 4, -1, 1)
        self.assert_way(HALF_LEFT, 0, -3, 5)
        self.assert_way(HALF_RIGHT, 0, 3, 5)
        self.assert_way(HALF_RIGHT, -4, 1, 1)
        self.assert_way(MOST_LEFT, 4, -4, 4)
        self.assert_way(MOST_LEFT, 1, -4, 1)
        self.assert_way(MOST_RIGHT, 1, 4, 1)
        self.assert_way(MOST_RIGHT, 4, 3, 3)

    def test_on_rays_through_its_very_ends(self):
        self.assert_way(QUARTER_LEFT, 6, 0, 2)
        self.assert_way(QUARTER_RIGHT, 0, 6, 2)
        self.assert_way(HALF_LEFT, -6, 0, 2)
        self.assert_way(MOST_LEFT, 0, -2, 2)
        self.assert_way(MOST_RIGHT, 0, 2, 2)

    def test_on_the_other_hand_the_ray_meets_it(self):
        self.assert_way(MOST_LEFT, -3, -4, 1)
        self.assert_way(MOST_RIGHT, -3, 4, 1)
        self.assert_way(MOST_LEFT, -3, 4, 1)
        self.assert_way(HALF_LEFT, -3, 4, 1)
        self.assert_way(HALF_RIGHT, 3, -4, 1)

    def test_just_beside_half_a_turn(self):
        # Arcs of a little less and a little more than half a turn, and points across their gaps.
        less = (whole(25, 0), (arc(0, 0, -24, 7, "left"),))
        more = (whole(25, 0), (arc(0, 0, -24, -7, "left"),))
        for path in (less, more):
            self.assert_way(path, 25, -10, 10)
        self.assert_way(less, -31, -17, 25)
        self.assert_way(more, -17, -31, 25)
        self.assert_way(less, -48, 14, 25)
        self.assert_way(more, -48, -14, 25)
        self.assert_way(more, -50, 0, 25)
        self.assert_way(less, 0, 50, 25)

    def test_a_way_that_is_no_fraction(self):
        round_one = (whole(1, 0), (arc(0, 0, 0, 1, "left"),))
        at = whole(1, 1)
        self.assert_truth(is_near(round_one, at, ratio("41421356237/100000000000")), False)
        self.assert_truth(is_near(round_one, at, ratio("41421356238/100000000000")), True)
        at = point("1/10", "1/10")
        self.assert_truth(is_near(round_one, at, ratio("85857864376/100000000000")), False)
        self.assert_truth(is_near(round_one, at, ratio("85857864377/100000000000")), True)


class NearAll(Ways):
    def test_by_nought_nothing_is(self):
        for path in PATHS.values():
            for x, y in points_on(path) + [(Fraction(7), Fraction(1, 3))]:
                self.assert_truth(is_near(path, point(x, y), (0, 1)), False)

    def test_points_on_the_path_are_by_anything_else(self):
        for path in PATHS.values():
            for x, y in points_on(path):
                self.assert_on(path, x, y)

    def test_any_size(self):
        for path in PATHS.values():
            self.assert_truth(is_near(path, ((BIGGER, 7), (0, 1)), (BIG, 1)), False)
            self.assert_truth(is_near(path, ((BIG, 7), (0, 1)), (BIGGER, 1)), True)

    def test_about_the_way_that_floats_tell(self):
        asker = random.Random(11)
        for name, path in PATHS.items():
            ends = points_on(path)
            for _ in range(60):
                x, y = asker.choice(ends)
                x += Fraction(asker.randint(-60, 60), asker.randint(1, 20))
                y += Fraction(asker.randint(-60, 60), asker.randint(1, 20))
                way = Fraction(about_way(path, float(x), float(y))).limit_denominator(10 ** 9)
                off = Fraction(1, 10 ** 6)
                with self.subTest(name=name, x=x, y=y):
                    self.assert_truth(is_near(path, point(x, y), ratio(way + off)), True)
                    self.assert_truth(is_near(path, point(x, y), ratio(max(way - off, Fraction(0)))), False)

    def test_the_same_of_the_path_turned_about_and_moved(self):
        asker = random.Random(13)
        for path in PATHS.values():
            back, off = turned_about(path), moved(path, whole(3, -2))
            for _ in range(40):
                x, y, way = (Fraction(asker.randint(-80, 80), asker.randint(1, 9)) for _ in range(3))
                told = is_near(path, point(x, y), ratio(abs(way)))
                self.assert_truth(is_near(back, point(x, y), ratio(abs(way))), told)
                self.assert_truth(is_near(off, point(x + 3, y - 2), ratio(abs(way))), told)


class Own(Kinds):
    def test_asked_again_all_is_told_the_same(self):
        before = copy.deepcopy(WINDING)
        for _ in range(2):
            self.assertEqual(apart(WINDING, 0, ORIGIN), apart(WINDING, 0, ORIGIN))
            self.assert_truth(is_near(WINDING, ORIGIN, (3, 1)), True)
            self.assert_truth(is_near(WINDING, ORIGIN, (1, 1)), False)
        self.assertEqual(WINDING, before)

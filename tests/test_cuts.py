"""Promises [1], [2], [14] and [15]: cuts.py."""

import copy
import math
import random
from fractions import Fraction

from sidecut.blocks import blocks
from sidecut.cuts import corners_left, cut_bounds, is_cut
from sidecut.paths import corners, headings, mirrored, turned_about
from sidecut.ways import stretches, ways
from tests.kinds import (BIG, BIGGER, HALF_LEFT, ORIGIN, PATHS, QUARTER_LEFT, RIGHT_SQUARE, SQUARE, Kinds,
                         about_way, along, arc, own_size, own_units, pair, point, points_on, ratio, side,
                         some_paths, whole)

SIDES = ("left", "right")
FLAT = (ORIGIN, (side(4, 0),))
UPRIGHT = (whole(2, -2), (side(2, 2),))


def shown(block):
    """Point, first and last unit of a fan or a cap, as pairs."""
    (x, y), first, *_, last = (pair(corner) for corner in block[2])
    far = math.isqrt(((first[0] - x) ** 2 + (first[1] - y) ** 2).numerator)
    far = Fraction(far, math.isqrt(((first[0] - x) ** 2 + (first[1] - y) ** 2).denominator))
    return (x, y), far, ((first[0] - x) / far, (first[1] - y) / far), ((last[0] - x) / far, (last[1] - y) / far)


def within_round(block, steps):
    """The block, but a fan's and a cap's corners are on the round about its point."""
    if block[0] == "strip":
        return block
    (x, y), far, first, last = shown(block)
    units = own_units(first, last, steps)
    return block[:2] + ((point(x, y), *(point(x + far * a, y + far * b) for a, b in units)), "-" * (len(units) + 1))


def own_bounds(told, far, steps):
    laid = [block for way in told for block in blocks(way, far, steps)]
    return (own_size([within_round(block, steps) for block in laid]), own_size(laid))


class IsCut(Kinds):
    def test_no_ways(self):
        self.assert_truth(is_cut([], (1, 1), ORIGIN), False)

    def test_a_side(self):
        for x, y, asked in ((2, 0, True), (2, 1, True), (2, "1001/1000", False), (2, -1, True), (5, 0, True),
                            ("5001/1000", 0, False), (-1, 0, True), ("23/5", "4/5", True), ("23/5", "81/100", False),
                            (5, 1, False), ("-3/5", "-4/5", True)):
            self.assert_truth(is_cut([FLAT], (1, 1), point(x, y)), asked)

    def test_several_ways(self):
        two = [FLAT, along((0, 5), (4, 5))]
        for y, asked in ((0, True), (1, True), (2, False), (4, True), (6, True), (7, False)):
            self.assert_truth(is_cut(two, (1, 1), point(2, y)), asked)
            self.assert_truth(is_cut(two[::-1], (1, 1), point(2, y)), asked)

    def test_an_arc(self):
        for x, y, asked in ((5, 0, True), ("5001/1000", 0, False), (3, 0, True), ("2999/1000", 0, False),
                            (0, 0, False), ("9/5", "12/5", True), (3, 4, True), ("8/5", "11/5", False),
                            (4, -1, True), (5, -1, False), (4, "-1001/1000", False), (-1, 4, True),
                            ("-3/5", "24/5", True), ("-3/5", "16/5", True), (-1, 5, False)):
            self.assert_truth(is_cut([QUARTER_LEFT], (1, 1), point(x, y)), asked)

    def test_an_arcs_middle(self):
        for far, asked in (((4, 1), True), ((3999, 1000), False), ((5, 1), True)):
            self.assert_truth(is_cut([HALF_LEFT], far, ORIGIN), asked)
        self.assert_truth(is_cut([HALF_LEFT], (6, 1), whole(0, -1)), True)

    def test_all_of_a_path_is_cut(self):
        for path in PATHS.values():
            for at in points_on(path):
                self.assert_truth(is_cut([path], (1, 9999), point(*at)), True)

    def test_by_floats(self):
        asker = random.Random(61)
        paths = [*PATHS.values(), *some_paths(62, 10)]
        for path in paths:
            for far in (Fraction(1, 2), Fraction(3)):
                for _ in range(25):
                    x, y = Fraction(asker.randint(-120, 160), 8), Fraction(asker.randint(-120, 160), 8)
                    way = about_way(path, float(x), float(y))
                    if abs(way - far) > 1e-9:
                        self.assert_truth(is_cut([path], ratio(far), point(x, y)), way < far)

    def test_of_any_size(self):
        tiny = Fraction(1, BIGGER)
        self.assert_truth(is_cut([FLAT], (BIG, 1), whole(0, BIG)), True)
        self.assert_truth(is_cut([FLAT], (BIG, 1), whole(0, BIG + 1)), False)
        self.assert_truth(is_cut([FLAT], (1, 1), point(2, 1 + tiny)), False)
        self.assert_truth(is_cut([QUARTER_LEFT], ratio(1 + tiny), point(5 + tiny, 0)), True)
        self.assert_truth(is_cut([QUARTER_LEFT], ratio(1 + tiny), point(5 + 2 * tiny, 0)), False)


class Bounds(Kinds):
    def assert_bounds(self, thing, least, most):
        self.assertIs(type(thing), tuple)
        self.assertEqual(len(thing), 2)
        self.assert_is_fraction(thing[0], Fraction(least))
        self.assert_is_fraction(thing[1], Fraction(most))

    def test_no_ways(self):
        self.assert_bounds(cut_bounds([], (1, 1), 1), 0, 0)

    def test_a_side(self):
        self.assert_bounds(cut_bounds([FLAT], (1, 1), 1), 10, 12)
        # Each half round is two quarters of four units: 37/50 each within it, 17/21 each round it.
        self.assert_bounds(cut_bounds([FLAT], (1, 1), 2), 8 + 4 * Fraction(37, 50), 8 + 4 * Fraction(17, 21))

    def test_a_closed_way(self):
        # Without and within the square strips of 1, and a quarter round at each corner.
        self.assert_bounds(cut_bounds([SQUARE], (1, 1), 1), 16 + 12 + 4 * Fraction(1, 2), 16 + 12 + 4)
        self.assert_bounds(cut_bounds([SQUARE], (2, 1), 1), 16 + 32 + 4 * 2, 16 + 32 + 4 * 4)

    def test_ways_that_cross(self):
        self.assert_bounds(cut_bounds([FLAT, UPRIGHT], (1, 1), 1), 20 - 4, 24 - 4)

    def test_ways_that_touch(self):
        self.assert_bounds(cut_bounds([FLAT, along((0, 2), (4, 2))], (1, 1), 1), 20, 24)
        self.assert_bounds(cut_bounds([FLAT, along((4, 0), (8, 0))], (1, 1), 1), 18, 20)
        self.assert_bounds(cut_bounds([FLAT, along((6, 0), (8, 0))], (1, 1), 1), 16, 20)

    def test_a_side_there_and_back(self):
        self.assert_bounds(cut_bounds([along((0, 0), (4, 0), (0, 0))], (1, 1), 1), 10, 12)

    def test_twice_turned_about_and_in_another_order(self):
        told = ways(PATHS["winding"], "left", (1, 1), 2)
        asked = cut_bounds(told, (1, 2), 2)
        self.assertEqual(cut_bounds(told + told, (1, 2), 2), asked)
        self.assertEqual(cut_bounds(told[::-1], (1, 2), 2), asked)
        self.assertEqual(cut_bounds([turned_about(way) for way in told], (1, 2), 2), asked)
        self.assertEqual(cut_bounds(told + [turned_about(way) for way in told], (1, 2), 2), asked)
        self.assertEqual(cut_bounds([mirrored(way) for way in told], (1, 2), 2), asked)

    def test_by_a_second_reckoning(self):
        paths = [PATHS["twelve"], PATHS["back"], PATHS["straight"], along((0, 0), (5, 0), (9, 3), (6, 7), (6, -2))]
        for path in paths:
            for far, steps in (((1, 2), 1), ((2, 1), 2)):
                self.assert_bounds(cut_bounds([path], far, steps), *own_bounds([path], far, steps))
        for path in (SQUARE, PATHS["back"]):
            for hand in SIDES:
                told = ways(path, hand, (1, 1), 1)
                self.assert_bounds(cut_bounds(told, (1, 1), 1), *own_bounds(told, (1, 1), 1))

    def test_least_is_no_more_than_most(self):
        for path in [*PATHS.values(), *some_paths(63, 6)]:
            for hand in SIDES:
                told = ways(path, hand, (1, 1), 1)
                bounds = [[Fraction(*each) for each in cut_bounds(told, (1, 1), steps)] for steps in (1, 2)]
                # What is cut is of one size, between the bounds of all steps.
                self.assertLessEqual(max(least for least, _ in bounds), min(most for _, most in bounds))
                self.assertEqual(bounds[0][1] == 0, not told)

    def test_a_rounds_size_is_between(self):
        for length in (1, 7):
            for steps in (1, 2, 3):
                least, most = cut_bounds([along((0, 0), (length, 0))], (3, 1), steps)
                size = 6 * length + 9 * math.pi
                self.assertTrue(float(Fraction(*least)) < size < float(Fraction(*most)))
                self.assertLess(float(Fraction(*most) - Fraction(*least)), 9 * 2.1 / steps ** 2)

    def test_of_any_size(self):
        self.assert_bounds(cut_bounds([FLAT], (BIG, 1), 1), 8 * BIG + 2 * BIG * BIG, 8 * BIG + 4 * BIG * BIG)
        self.assert_bounds(cut_bounds([FLAT], (1, BIG), 1), Fraction(8, BIG) + Fraction(2, BIG ** 2),
                           Fraction(8, BIG) + Fraction(4, BIG ** 2))


class Left(Kinds):
    def assert_left(self, thing, asked):
        self.assertIs(type(thing), list)
        for each in thing:
            self.assertIs(type(each), tuple)
            self.assertEqual(len(each), 4)
            self.assert_number(each[0])
            self.assertIs(type(each[1]), tuple)
            self.assertEqual(len(each[1]), 4)
            for corner in each[1]:
                self.assert_vector(corner)
            self.assert_fraction(each[2])
            self.assert_fraction(each[3])
        self.assertEqual(thing, [(number, tuple(point(x, y) for x, y in kite), ratio(least), ratio(most))
                                 for number, kite, least, most in asked])

    def test_a_square(self):
        for steps, least, most in ((1, 0, "1/2"), (2, "4/21", "13/50")):
            self.assert_left(corners_left(SQUARE, "left", (1, 1), steps), [
                (0, ((0, 0), (0, 1), (1, 1), (1, 0)), least, most), (1, ((4, 0), (3, 0), (3, 1), (4, 1)), least, most),
                (2, ((4, 4), (4, 3), (3, 3), (3, 4)), least, most), (3, ((0, 4), (1, 4), (1, 3), (0, 3)), least, most)])
            self.assert_left(corners_left(SQUARE, "right", (1, 1), steps), [])

    def test_to_the_right(self):
        self.assert_left(corners_left(RIGHT_SQUARE, "right", (1, 1), 1), [
            (0, ((0, 0), (1, 0), (1, 1), (0, 1)), 0, "1/2"), (1, ((0, 4), (0, 3), (1, 3), (1, 4)), 0, "1/2"),
            (2, ((4, 4), (3, 4), (3, 3), (4, 3)), 0, "1/2"), (3, ((4, 0), (4, 1), (3, 1), (3, 0)), 0, "1/2")])
        self.assert_left(corners_left(RIGHT_SQUARE, "left", (1, 1), 1), [])

    def test_an_open_path(self):
        path = along((0, 6), (0, 0), (6, 0))
        self.assert_left(corners_left(path, "left", (2, 1), 1), [(1, ((0, 0), (0, 2), (2, 2), (2, 0)), 0, 2)])
        self.assert_left(corners_left(turned_about(path), "right", (2, 1), 1),
                         [(1, ((0, 0), (2, 0), (2, 2), (0, 2)), 0, 2)])

    def test_a_slanting_corner(self):
        # Between (1, 0) and (-3/5, 4/5) the half angle's tangent is 2: the foot is 2 away from the corner.
        path = along((-9, 0), (0, 0), (-6, 8))
        self.assertEqual(corners(path), [(1, "left")])
        told = corners_left(path, "left", (1, 1), 1)
        self.assertEqual([each[:2] for each in told],
                         [(1, (whole(0, 0), whole(-2, 0), whole(-2, 1), point("-6/5", "8/5")))])
        # The units are (0, -1), then a quarter on and the same from the other end, (4/5, 3/5).
        units = own_units((Fraction(0), Fraction(-1)), (Fraction(4, 5), Fraction(3, 5)), 1)
        inside = sum(a * d - b * c for (a, b), (c, d) in zip(units, units[1:])) / 2
        around = sum((a * d - b * c) / (1 + a * c + b * d) for (a, b), (c, d) in zip(units, units[1:]))
        self.assert_left(told, [(1, ((0, 0), (-2, 0), (-2, 1), ("-6/5", "8/5")), 2 - around, 2 - inside)])

    def test_a_side_that_is_too_short(self):
        # Side 1 is just twice the half width long, or less: its strip has no stretch.
        for length in (2, "3/2", 1):
            path = along((0, 6), (0, 0), (length, 0), (length, 6))
            self.assert_left(corners_left(path, "left", (1, 1), 1), [])
        path = along((0, 6), (0, 0), (3, 0), (3, 6))
        self.assertEqual([each[0] for each in corners_left(path, "left", (1, 1), 1)], [1, 2])

    def test_stretches_whose_ends_do_not_meet(self):
        # Side 0 is so short that its way ends at the start, above that of side 1.
        path = along((0, 1), (0, 0), (6, 0))
        self.assert_left(corners_left(path, "left", (2, 1), 1), [])
        # A later side goes through the corner.
        path = along((0, 6), (0, 0), (9, 0), (9, 9), (1, 9), (1, -6))
        self.assertEqual([each[0] for each in corners_left(path, "left", (1, 1), 1)], [2, 3, 4])
        self.assertEqual([each[0] for each in corners_left(path[:1] + (path[1][:-1],), "left", (1, 1), 1)], [1, 2, 3])

    def test_the_stretches_next_to_the_corner_count(self):
        # Both sides are crossed and have two stretches each.
        path = along((0, 12), (0, 0), (12, 0), (12, -4), (6, -4), (6, 6), (-6, 6))
        told = corners_left(path, "left", (1, 1), 1)
        self.assertEqual(told[0][:2], (1, (whole(0, 0), whole(0, 1), whole(1, 1), whole(1, 0))))
        back = corners_left(turned_about(path), "right", (1, 1), 1)
        self.assertEqual([each[1][0] for each in back], [each[1][0] for each in told][::-1])
        self.assertEqual([each[2:] for each in back], [each[2:] for each in told][::-1])

    def test_arcs_and_straight_corners_have_none(self):
        path = (whole(0, 6), (side(0, 0), arc(3, 0, 3, -3, "left"), side(3, 6)))
        self.assertEqual([each[0] for each in corners_left(path, "left", (1, 2), 1)], [])
        self.assert_left(corners_left(along((0, 0), (4, 0), (8, 0)), "left", (1, 1), 1), [])
        self.assert_left(corners_left(along((0, 0), (4, 0), (0, 0)), "left", (1, 1), 1), [])

    def test_all_as_the_words_have_it(self):
        for path in [*PATHS.values(), *some_paths(64, 25)]:
            for hand in SIDES:
                for far in ((1, 2), (2, 1)):
                    self.assert_left(corners_left(path, hand, far, 1), self.own_left(path, hand, far))

    def own_left(self, path, hand, far):
        laid, found, by = blocks(path, far, 1), [], Fraction(*far)
        rows = {}
        for number, _, begin, end in stretches(path, hand, far, 1):
            if laid[number][0] == "strip":
                rows.setdefault(laid[number][1], []).append((pair(begin), pair(end)))
        for number, word in corners(path):
            ahead = (number - 1) % len(path[1])
            if word != hand or ahead not in rows or number not in rows:
                continue
            (ux, uy), (wx, wy) = pair(headings(path, ahead)[1]), pair(headings(path, number)[0])
            last = max(rows[ahead], key=lambda each: each[1][0] * ux + each[1][1] * uy)
            first = min(rows[number], key=lambda each: each[0][0] * wx + each[0][1] * wy)
            if last[1] != first[0]:
                continue
            (x, y), turn = last[1], 1 if hand == "left" else -1
            one, other = (turn * uy, -turn * ux), (turn * wy, -turn * wx)
            units = own_units(one, other, 1) if hand == "left" else own_units(other, one, 1)
            vx, vy = pair(path[0] if number == 0 else path[1][ahead][1])
            kite = ((vx, vy), (x + by * one[0], y + by * one[1]), (x, y), (x + by * other[0], y + by * other[1]))
            size = abs(sum(a * d - b * c for (a, b), (c, d) in zip(kite, kite[1:] + kite[:1]))) / 2
            pairs = list(zip(units, units[1:]))
            inside = sum(a * d - b * c for (a, b), (c, d) in pairs) / 2
            around = sum((a * d - b * c) / (1 + a * c + b * d) for (a, b), (c, d) in pairs)
            found.append((number, kite, size - by * by * around, size - by * by * inside))
            # The round that the cutter leaves in the kite is of a size between.
            angle = math.acos(float(one[0] * other[0] + one[1] * other[1]))
            left = float(size) - float(by) ** 2 * angle / 2
            self.assertTrue(float(found[-1][2]) - 1e-9 <= left <= float(found[-1][3]) + 1e-9)
        return found


class Own(Kinds):
    def test_told_lists_are_the_askers_own(self):
        first = corners_left(SQUARE, "left", (1, 1), 1)
        kept = copy.deepcopy(first)
        first[0] = None
        first.append("a")
        second = corners_left(SQUARE, "left", (1, 1), 1)
        self.assertIsNot(first, second)
        self.assertEqual(second, kept)

    def test_what_is_handed_in_stays_as_it_was(self):
        told = ways(PATHS["twelve"], "left", (1, 1), 1)
        before = copy.deepcopy(told)
        cut_bounds(told, (1, 1), 1)
        is_cut(told, (1, 1), ORIGIN)
        corners_left(told[0], "left", (1, 1), 1)
        self.assertEqual(told, before)

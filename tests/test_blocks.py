"""Promises [2] and [8]: blocks.py."""

import copy
import random
from fractions import Fraction

from sidecut.blocks import blocks, most_off
from sidecut.near import is_near
from sidecut.paths import corners, headings, is_path, mirrored, moved, turned_about
from tests.kinds import (BACK, BIG, HALF_LEFT, LENS, MID_SQUARE, ONE_SIDE, ORIGIN, PATHS, QUARTER_LEFT,
                         QUARTER_RIGHT, RIGHT_SQUARE, SLOT, SQUARE, STRAIGHT, THERE_AND_BACK, TWELVE,
                         WINDING, Kinds, about_way, arc, arc_pairs, begins, own_quarters, own_units, pair,
                         point, points_on, ratio, side, whole)

FARS = (Fraction(1, 2), Fraction(1), Fraction(7, 3), Fraction(50))
FLAT = (ORIGIN, (side(4, 0),))


def pairs(*rows):
    """The points of such pairs, as a tuple."""
    return tuple(point(x, y) for x, y in rows)


def left(one):
    return (-one[1], one[0])


def right(one):
    return (one[1], -one[0])


def tip(one, other):
    low = 1 + one[0] * other[0] + one[1] * other[1]
    return ((one[0] + other[0]) / low, (one[1] + other[1]) / low)


def least(units):
    return min(a * c + b * d for (a, b), (c, d) in zip(units, units[1:]))


def about(middle, one, by_that):
    """The point that is so far from the middle pair, in the direction of the other pair."""
    return point(middle[0] + one[0] * by_that, middle[1] + one[1] * by_that)


def own_fan_units(path, number, word, steps):
    u = pair(headings(path, (number - 1) % len(path[1]))[1])
    w = pair(headings(path, number)[0])
    first, last = {"left": (right(u), right(w)), "right": (left(w), left(u)),
                   "back": (right(u), left(u))}[word]
    return own_units(first, last, steps)


def own_fan(word, number, at, units, far, mark):
    """A fan or a cap, as the document's words have it."""
    found = [point(*at), about(at, units[0], far)]
    for one, other in zip(units, units[1:]):
        found.append(about(at, tip(one, other), far))
    found.append(about(at, units[-1], far))
    return (word, number, tuple(found), "-" + mark * (len(found) - 2) + "-")


def own_inner(radius, far, units):
    return Fraction(0) if far >= radius else (radius - far) * (1 + least(units)) / 2


def own_sectors(path, number, far, steps):
    middle, radius, ends = arc_pairs(path, number)
    units = own_units(*ends, steps)
    inner, outer = own_inner(radius, far, units), radius + far
    rows = []
    for one, other in zip(units, units[1:]):
        t = tip(one, other)
        for a, b in ((one, t), (t, other)):
            if inner == 0:
                rows.append([(point(*middle), about(middle, a, outer), about(middle, b, outer)), "-r-"])
            else:
                rows.append([(about(middle, a, inner), about(middle, a, outer), about(middle, b, outer),
                              about(middle, b, inner)), "-r-l"])
    if inner != 0:
        rows[0][1], rows[-1][1] = "lr-l", "-rll"
    if path[1][number][3] == "right":
        for row in rows:
            row[1] = row[1].translate(str.maketrans("lr", "rl"))
    return [("sector", number, outline, marks) for outline, marks in rows]


def own_strip(path, number, far):
    p, q = pair(begins(path)[number]), pair(path[1][number][1])
    n = left(pair(headings(path, number)[0]))
    return ("strip", number, (about(p, n, -far), about(q, n, -far), about(q, n, far), about(p, n, far)), "r-l-")


def own_blocks(path, far, steps):
    """All blocks, as the document's words have them."""
    words, many, found = dict(corners(path)), len(path[1]), []
    closed = begins(path)[0] == path[1][-1][1 if path[1][-1][0] == "side" else 2]
    if not closed:
        u = pair(headings(path, 0)[0])
        found.append(own_fan("cap", 0, pair(path[0]), own_units(left(u), right(u), steps), far, "e"))
    for number, piece in enumerate(path[1]):
        if piece[0] == "side":
            found.append(own_strip(path, number, far))
        else:
            found += own_sectors(path, number, far, steps)
        behind = number + 1 if number + 1 < many or not closed else 0
        word = words.get(behind, "straight")
        if word != "straight":
            units = own_fan_units(path, behind, word, steps)
            mark = {"left": "r", "right": "l", "back": "b"}[word]
            found.append(own_fan("fan", behind, pair(begins(path)[behind]), units, far, mark))
    if not closed:
        u, last = pair(headings(path, many - 1)[1]), path[1][-1]
        at = pair(last[1] if last[0] == "side" else last[2])
        found.append(own_fan("cap", many - 1, at, own_units(right(u), left(u), steps), far, "e"))
    return found


def own_most(path, far, steps):
    found = [far]
    for number, word in corners(path):
        if word != "straight":
            found.append(far * 2 / (1 + least(own_fan_units(path, number, word, steps))))
    for number, piece in enumerate(path[1]):
        if piece[0] == "arc":
            _, radius, ends = arc_pairs(path, number)
            units = own_units(*ends, steps)
            found.append((radius + far) * 2 / (1 + least(units)) - radius)
            if own_inner(radius, far, units) != 0:
                found.append(radius - own_inner(radius, far, units))
    return max(found)


def is_in(outline, x, y):
    """Whether the point is in the block, edges too, by its outline of pairs."""
    for (ax, ay), (bx, by_that) in zip(outline, outline[1:] + outline[:1]):
        if (bx - ax) * (y - ay) - (by_that - ay) * (x - ax) < 0:
            return False
    return True


class Strips(Kinds):
    def test_plain_ones(self):
        self.assertEqual(blocks(FLAT, (1, 1), 1)[1],
                         ("strip", 0, pairs((0, -1), (4, -1), (4, 1), (0, 1)), "r-l-"))
        self.assertEqual(blocks(ONE_SIDE, (5, 1), 1)[1],
                         ("strip", 0, pairs(("9/2", "-10/3"), ("15/2", "2/3"), ("-1/2", "20/3"),
                                            ("-7/2", "8/3")), "r-l-"))

    def test_of_each_side_of_a_path(self):
        told = [each for each in blocks(SQUARE, (1, 2), 1) if each[0] == "strip"]
        self.assertEqual([each[1] for each in told], [0, 1, 2, 3])
        self.assertEqual(told[2][2], pairs((4, "9/2"), (0, "9/2"), (0, "7/2"), (4, "7/2")))


class Fans(Kinds):
    def test_left(self):
        self.assertEqual(blocks(SQUARE, (1, 1), 1)[1],
                         ("fan", 1, pairs((4, 0), (4, -1), (5, -1), (5, 0)), "-rr-"))
        self.assertEqual(blocks(SQUARE, (1, 1), 2)[1],
                         ("fan", 1, pairs((4, 0), (4, -1), ("13/3", -1), ("33/7", "-5/7"), (5, "-1/3"),
                                          (5, 0)), "-rrrr-"))

    def test_right(self):
        self.assertEqual(blocks(RIGHT_SQUARE, (2, 1), 1)[1],
                         ("fan", 1, pairs((0, 4), (0, 6), (-2, 6), (-2, 4)), "-ll-"))

    def test_back(self):
        self.assertEqual(blocks(BACK, (1, 1), 1)[2],
                         ("fan", 1, pairs((5, 0), (5, -1), (6, -1), (6, 1), (5, 1)), "-bbb-"))
        both = [each for each in blocks(THERE_AND_BACK, (5, 1), 1) if each[0] == "fan"]
        self.assertEqual(both, [
            ("fan", 1, pairs((4, 3), (7, -1), (11, 2), (5, 10), (1, 7)), "-bbb-"),
            ("fan", 0, pairs((0, 0), (-3, 4), (-7, 1), (-1, -7), (3, -4)), "-bbb-")])

    def test_straight_has_none(self):
        self.assertEqual([each[:2] for each in blocks(STRAIGHT, (1, 1), 1)],
                         [("cap", 0), ("strip", 0), ("strip", 1), ("fan", 2), ("strip", 2), ("cap", 2)])
        self.assertNotIn("fan", [each[0] for each in blocks(SLOT, (1, 1), 3)])


class Caps(Kinds):
    def test_of_one_side(self):
        told = blocks(FLAT, (1, 1), 1)
        self.assertEqual(told[0], ("cap", 0, pairs((0, 0), (0, 1), (-1, 1), (-1, -1), (0, -1)), "-eee-"))
        self.assertEqual(told[2], ("cap", 0, pairs((4, 0), (4, -1), (5, -1), (5, 1), (4, 1)), "-eee-"))

    def test_of_arcs(self):
        told = blocks(QUARTER_LEFT, (2, 1), 1)
        self.assertEqual(told[0], ("cap", 0, pairs((4, 0), (2, 0), (2, -2), (6, -2), (6, 0)), "-eee-"))
        self.assertEqual(told[-1], ("cap", 0, pairs((0, 4), (0, 6), (-2, 6), (-2, 2), (0, 2)), "-eee-"))

    def test_steps(self):
        for steps, many in ((1, 3), (2, 7), (3, 11)):
            for each in (blocks(FLAT, (1, 1), steps)[0], blocks(FLAT, (1, 1), steps)[2]):
                self.assertEqual(each[3], "-" + "e" * many + "-")

    def test_the_last_one_bears_the_last_pieces_number(self):
        self.assertEqual(blocks(WINDING, (1, 1), 1)[0][:2], ("cap", 0))
        self.assertEqual(blocks(WINDING, (1, 1), 1)[-1][:2], ("cap", 7))

    def test_closed_paths_have_none(self):
        for path in (SQUARE, MID_SQUARE, LENS, SLOT, TWELVE, THERE_AND_BACK):
            self.assertNotIn("cap", [each[0] for each in blocks(path, (1, 1), 1)])


class Sectors(Kinds):
    def test_left(self):
        # The only tip is (1, 1), d is 0, inner (4 - 2) / 2, outer 6.
        self.assertEqual(blocks(QUARTER_LEFT, (2, 1), 1)[1:-1],
                         [("sector", 0, pairs((1, 0), (6, 0), (6, 6), (1, 1)), "lr-l"),
                          ("sector", 0, pairs((1, 1), (6, 6), (0, 6), (0, 1)), "-rll")])

    def test_right(self):
        self.assertEqual(blocks(QUARTER_RIGHT, (2, 1), 1)[1:-1],
                         [("sector", 0, pairs((1, 0), (6, 0), (6, 6), (1, 1)), "rl-r"),
                          ("sector", 0, pairs((1, 1), (6, 6), (0, 6), (0, 1)), "-lrr")])

    def test_between_the_first_and_the_last(self):
        told = blocks(HALF_LEFT, (1, 1), 1)[1:-1]
        self.assertEqual([each[3] for each in told], ["lr-l", "-r-l", "-r-l", "-rll"])
        self.assertEqual(told[1][2], pairs(("3/2", "3/2"), (5, 5), (0, 5), (0, "3/2")))
        self.assertEqual(told[2][2], pairs((0, "3/2"), (0, 5), (-5, 5), ("-3/2", "3/2")))
        told = blocks(turned_about(HALF_LEFT), (1, 1), 1)[1:-1]
        self.assertEqual([each[3] for each in told], ["rl-r", "-l-r", "-l-r", "-lrr"])

    def test_far_is_the_radius(self):
        self.assertEqual(blocks(QUARTER_LEFT, (4, 1), 1)[1:-1],
                         [("sector", 0, pairs((0, 0), (8, 0), (8, 8)), "-r-"),
                          ("sector", 0, pairs((0, 0), (8, 8), (0, 8)), "-r-")])

    def test_far_is_above_the_radius(self):
        self.assertEqual(blocks(QUARTER_RIGHT, (11, 2), 1)[1:-1],
                         [("sector", 0, pairs((0, 0), ("19/2", 0), ("19/2", "19/2")), "-l-"),
                          ("sector", 0, pairs((0, 0), ("19/2", "19/2"), (0, "19/2")), "-l-")])

    def test_far_is_just_below_the_radius(self):
        for far in (Fraction(399, 100), 4 - Fraction(1, 999)):
            for each in blocks(QUARTER_LEFT, ratio(far), 3)[1:-1]:
                self.assertEqual((len(each[2]), len(each[3])), (4, 4))

    def test_inner_is_by_the_least_dot(self):
        # With two steps the dots are 4/5, 24/25 and 4/5: inner is (4 - 1) * 9 / 10.
        told = blocks(QUARTER_LEFT, (1, 1), 2)[1:-1]
        self.assertEqual(len(told), 6)
        self.assertEqual(told[0], ("sector", 0, pairs(("27/10", 0), (5, 0), (5, "5/3"), ("27/10", "9/10")),
                                   "lr-l"))
        self.assertEqual(told[1], ("sector", 0, pairs(("27/10", "9/10"), (5, "5/3"), (4, 3),
                                                      ("54/25", "81/50")), "-r-l"))


class Order(Kinds):
    def test_of_a_closed_path_corner_nought_is_the_last(self):
        self.assertEqual([each[:2] for each in blocks(SQUARE, (1, 1), 1)],
                         [("strip", 0), ("fan", 1), ("strip", 1), ("fan", 2), ("strip", 2), ("fan", 3),
                          ("strip", 3), ("fan", 0)])
        self.assertEqual([each[:2] for each in blocks(MID_SQUARE, (1, 1), 1)][-2:], [("fan", 4), ("strip", 4)])

    def test_of_an_open_path(self):
        path = (ORIGIN, (side(3, 0), arc(3, 2, 5, 2, "left"), side(9, 2)))
        self.assertEqual([each[:2] for each in blocks(path, (1, 1), 1)],
                         [("cap", 0), ("strip", 0), ("sector", 1), ("sector", 1), ("fan", 2), ("strip", 2),
                          ("cap", 2)])

    def test_all_as_the_words_have_them(self):
        for name, path in PATHS.items():
            for far in FARS:
                for steps in (1, 2, 3):
                    with self.subTest(name=name, far=far, steps=steps):
                        told = blocks(path, ratio(far), steps)
                        self.assertIs(type(told), list)
                        for each in told:
                            self.assert_block(each)
                        self.assertEqual(told, own_blocks(path, far, steps))


class MostOff(Kinds):
    def test_without_fans_and_arcs_it_is_far(self):
        for far in FARS:
            self.assert_is_fraction(most_off(FLAT, ratio(far), 1), far)
            self.assert_is_fraction(most_off((ORIGIN, (side(3, 4), side(6, 8))), ratio(far), 2), far)

    def test_of_fans(self):
        self.assertEqual(most_off(SQUARE, (3, 1), 1), (6, 1))
        self.assertEqual(most_off(SQUARE, (3, 1), 2), (10, 3))
        self.assertEqual(most_off(RIGHT_SQUARE, (9, 1), 3), (234, 25))
        self.assertEqual(most_off(BACK, (1, 2), 1), (1, 1))

    def test_the_widest_fan_counts(self):
        # With one step the dot is 4/5 at corner 1, and 0 at corner 2; and the other way about.
        path = (ORIGIN, (side(5, 0), side(9, 3), side(6, 7)))
        self.assertEqual(most_off((path[0], path[1][:2]), (1, 1), 1), (10, 9))
        self.assertEqual(most_off(path, (1, 1), 1), (2, 1))
        self.assertEqual(most_off(turned_about(path), (1, 1), 1), (2, 1))

    def test_of_arcs(self):
        self.assertEqual(most_off(QUARTER_LEFT, (1, 1), 1), (6, 1))
        self.assertEqual(most_off(QUARTER_RIGHT, (1, 1), 2), (14, 9))
        self.assertEqual(most_off(QUARTER_LEFT, (4, 1), 1), (12, 1))
        self.assertEqual(most_off(QUARTER_LEFT, (6, 1), 1), (16, 1))

    def test_of_arcs_and_fans(self):
        path = (whole(1, 0), (arc(0, 0, 0, 1, "left"), side(0, 9)))
        self.assertEqual(most_off(path, (5, 1), 1), (11, 1))
        path = (whole(13, 0), (arc(0, 0, "312/25", "91/25", "left"), side("312/25", 9)))
        self.assertEqual(corners(path), [(1, "right")])
        self.assert_is_fraction(most_off(path, (5, 1), 1), own_most(path, Fraction(5), 1))

    def test_all_as_the_words_have_it(self):
        for name, path in PATHS.items():
            for far in FARS:
                for steps in (1, 2, 3):
                    with self.subTest(name=name, far=far, steps=steps):
                        self.assert_is_fraction(most_off(path, ratio(far), steps), own_most(path, far, steps))


class Together(Kinds):
    def test_corners_turn_to_the_left_or_go_straight_on(self):
        for path in PATHS.values():
            for far in FARS:
                for steps in (1, 2, 3):
                    for _, _, outline, _ in blocks(path, ratio(far), steps):
                        rows = [pair(each) for each in outline]
                        for k, (ax, ay) in enumerate(rows):
                            (bx, b), (cx, c) = rows[k - 1], rows[k - 2]
                            self.assertGreaterEqual((bx - cx) * (ay - b) - (b - c) * (ax - bx), 0)
                        self.assertEqual(len(set(rows)), len(rows))
                        for x, y in rows:
                            self.assertTrue(is_in(rows, x, y))

    def test_they_have_each_point_no_further_than_far_away(self):
        asker = random.Random(17)
        ring = own_quarters((Fraction(1), Fraction(0)), (Fraction(4, 5), Fraction(-3, 5)), 4)
        for name, path in PATHS.items():
            for far in FARS:
                for steps in (1, 3):
                    outlines = [[pair(each) for each in block[2]] for block in blocks(path, ratio(far), steps)]
                    for x, y in asker.sample(points_on(path), 7):
                        for ux, uy in asker.sample(ring, 6):
                            part = far * asker.choice((1, Fraction(99, 100), Fraction(1, 2), 0))
                            found = any(is_in(rows, x + part * ux, y + part * uy) for rows in outlines)
                            self.assertTrue(found, (name, far, steps, x, y, ux, uy, part))

    def test_no_point_of_a_bearing_edge_is_further_off_than_most_off(self):
        for name, path in PATHS.items():
            for far in FARS:
                for steps in (1, 2, 3):
                    most = Fraction(*most_off(path, ratio(far), steps))
                    for _, _, outline, marks in blocks(path, ratio(far), steps):
                        rows = [pair(each) for each in outline]
                        for k, mark in enumerate(marks):
                            if mark in "lrb":
                                (ax, ay), (bx, b) = rows[k], rows[(k + 1) % len(rows)]
                                for part in (0, Fraction(1, 3), Fraction(1, 2), 1):
                                    x, y = float(ax + (bx - ax) * part), float(ay + (b - ay) * part)
                                    way = about_way(path, x, y)
                                    self.assertLessEqual(way, float(most) + 1e-9, (name, far, steps))

    def test_a_bearing_corner_by_is_near(self):
        most = most_off(WINDING, (1, 2), 2)
        above = ratio(Fraction(*most) + Fraction(1, BIG))
        for _, _, outline, marks in blocks(WINDING, (1, 2), 2):
            for corner, mark in zip(outline, marks):
                if mark in "lrb":
                    self.assert_truth(is_near(WINDING, corner, above), True)

    def kept_outline(self, block, change, marks):
        """The block's edges with their marks, wherever they begin."""
        rows = [change(each) for each in block[2]]
        return frozenset(zip(rows, rows[1:] + rows[:1], block[3].translate(marks)))

    def test_of_the_path_turned_about_hands_are_exchanged(self):
        other, same = str.maketrans("lr", "rl"), str.maketrans("", "")
        for name, path in PATHS.items():
            for steps in (1, 2, 3):
                told = blocks(path, (4, 3), steps)
                back = blocks(turned_about(path), (4, 3), steps)
                self.assertEqual({self.kept_outline(each, lambda at: at, other) for each in told},
                                 {self.kept_outline(each, lambda at: at, same) for each in back}, name)

    def test_of_the_mirrored_path_they_are_mirrored(self):
        other, same = str.maketrans("lr", "rl"), str.maketrans("", "")
        for name, path in PATHS.items():
            for steps in (1, 2, 3):
                told = {self.kept_outline(each, lambda at: ((-at[0][0], at[0][1]), at[1]), other)
                        for each in blocks(path, (4, 3), steps)}
                found = {self.kept_outline(each, lambda at: at, same)
                         for each in blocks(mirrored(path), (4, 3), steps)}
                # Mirrored, an edge goes the other way.
                turned = {frozenset((b, a, mark) for a, b, mark in each) for each in told}
                self.assertEqual(turned, found, name)


class Own(Kinds):
    def test_changing_a_told_list_changes_nothing_else(self):
        for path in (SQUARE, WINDING, QUARTER_LEFT):
            first = blocks(path, (1, 1), 2)
            kept = copy.deepcopy(first)
            first.append(None)
            first[0] = "a"
            second = blocks(path, (1, 1), 2)
            self.assertIsNot(first, second)
            self.assertEqual(second, kept)
            most = most_off(path, (1, 1), 2)
            second.clear()
            self.assertEqual(blocks(path, (1, 1), 2), kept)
            self.assertEqual(most_off(path, (1, 1), 2), most)

    def test_what_is_handed_in_stays_as_it_was(self):
        for path in PATHS.values():
            before = copy.deepcopy(path)
            blocks(path, (1, 1), 1)
            most_off(path, (1, 1), 1)
            self.assertEqual(path, before)
            self.assert_truth(is_path(path), True)

    def test_what_was_told_may_be_handed_in_again(self):
        path = moved(WINDING, ((BIG, 7), (-1, BIG)))
        told = blocks(path, most_off(WINDING, (1, 2), 1), 1)
        self.assertEqual(told, own_blocks(path, own_most(WINDING, Fraction(1, 2), 1), 1))
        for each in told:
            self.assert_block(each)

"""Promises [1], [2], [10] and [11]: ways.py."""

import copy
import random
from fractions import Fraction

from sidecut.blocks import blocks, most_off
from sidecut.near import apart, is_near
from sidecut.patches import rim
from sidecut.paths import is_path, mirrored, moved, turned_about
from sidecut.ways import left_out, shows_left_out, stretches, ways
from tests.kinds import (BIG, ORIGIN, PATHS, RIGHT_SQUARE, SQUARE, Kinds, along, arc, between, crossed,
                         crossing_parts, edges_of, less, off_edge, outline_of, pair, point, ratio, side,
                         some_paths, whole)

SIDES = ("left", "right")
FLAT = (ORIGIN, (side(4, 0),))
CROSSING = (ORIGIN, (side(10, 0), side(10, 5), side(5, 5), side(5, -5)))
BACK_AND_FORTH = (ORIGIN, (side(4, 0), side(0, 0)))
TWICE = (whole(0, 6), (side(0, 0), side(6, 0), side(6, -8), side(-2, -8), side(-2, -2), side(-8, -2)))
OVER_AGAIN = (ORIGIN, (side(4, 0), side(4, 3), side(0, 3), side(0, 0), side(4, 0), side(6, 0)))

SOME = [*PATHS.values(), CROSSING, BACK_AND_FORTH, TWICE, OVER_AGAIN, *some_paths(21, 16)]


def slot(wide):
    """Down, across and up again."""
    return (whole(0, 6), (side(0, 0), side(wide, 0), side(wide, 6)))


def row(number, edge, begin, end):
    return (number, edge, point(*begin), point(*end))


def part(number, low, high, bar):
    return (number, ratio(low), ratio(high), bar)


def own_ways(rows):
    """The ways of a list of stretches, word by word as the document has them."""
    rest, found = [(pair(begin), pair(end)) for _, _, begin, end in rows], []
    while rest:
        first = [each for each in rest if all(end != each[0] for _, end in rest)] or rest
        way = [first[0]]
        rest.remove(first[0])
        while way[-1][1] != way[0][0]:
            behind = [each for each in rest if each[0] == way[-1][1]]
            if not behind:
                break
            way.append(behind[0])
            rest.remove(behind[0])
        ends, ahead = [], None
        for begin, end in way:
            now = less(end, begin)
            if ahead and crossed(ahead, now) == 0 and ahead[0] * now[0] + ahead[1] * now[1] > 0:
                ends.pop()
            ends.append(end)
            ahead = now
        found.append(along(way[0][0], *ends))
    return found


def does_bar(outline, ends, at):
    """Whether the block of that outline bars the pair, on the strip's edge with those ends."""
    offs = [(off_edge(edge, at), less(edge[1], edge[0])) for edge in edges_of(outline)]
    if min(off for off, _ in offs) < 0:
        return False
    # Beyond the strip lies what has an edge there that goes against the strip's.
    x, y = less(ends[1], ends[0])
    return all(off > 0 or x * way[0] + y * way[1] < 0 for off, way in offs)


def strip_edges(laid, hand):
    """The strips' edges on that hand as their blocks have them, by the numbers of their sides."""
    return {block[1]: edges_of(outline_of(block))[2 if hand == "left" else 0]
            for block in laid if block[0] == "strip"}


def own_left_out(path, hand, far, steps):
    """What is left out, as the document's words have it, by a look at the middle between all crossings."""
    laid = blocks(path, far, steps)
    outlines, found = [outline_of(block) for block in laid], []
    for number, ends in strip_edges(laid, hand).items():
        begin, end = ends if hand == "right" else ends[::-1]
        parts = crossing_parts(begin, end, outlines)
        for low, high in zip(parts, parts[1:]):
            at = between(begin, end, (low + high) / 2)
            bars = [bar for bar, outline in enumerate(outlines) if does_bar(outline, ends, at)]
            if bars:
                if found and found[-1][0] == number and found[-1][2] == low and found[-1][3] == bars[0]:
                    low = found.pop()[1]
                found.append((number, low, high, bars[0]))
    return [part(*each) for each in found]


def put_together(rows):
    """The same points as those of rows (begin, end), as few segments between pairs, whichever way they go."""
    lines = {}
    for begin, end in rows:
        one, other = sorted((pair(begin), pair(end)))
        x, y = less(other, one)
        slope = y / x if x else None
        lines.setdefault((slope, one[1] - slope * one[0] if x else one[0]), []).append((one, other))
    found = set()
    for segments in lines.values():
        low, high = None, None
        for one, other in sorted(segments):
            if low is not None and one <= high:
                high = max(high, other)
                continue
            if low is not None:
                found.add((low, high))
            low, high = one, other
        found.add((low, high))
    return found


def sides_of(told):
    """The sides (begin, end) of all paths of a list of paths of sides."""
    found = []
    for start, pieces in told:
        for piece in pieces:
            found.append((start, piece[1]))
            start = piece[1]
    return found


def flip(at):
    return ((-at[0][0], at[0][1]), at[1])


def parts_of_way(begin, end):
    return [between(pair(begin), pair(end), Fraction(k, 4)) for k in range(5)]


class Stretches(Kinds):
    def test_of_one_side(self):
        self.assert_rows(stretches(FLAT, "right", (1, 1), 1), [row(1, 0, (0, -1), (4, -1))])
        self.assert_rows(stretches(FLAT, "left", (1, 1), 1), [row(1, 2, (0, 1), (4, 1))])

    def test_there_and_back(self):
        self.assert_rows(stretches(BACK_AND_FORTH, "left", (1, 1), 1), [
            row(0, 2, (0, 1), (4, 1)),
            row(1, 1, (5, -1), (4, -1)), row(1, 2, (5, 1), (5, -1)), row(1, 3, (4, 1), (5, 1)),
            row(2, 2, (4, -1), (0, -1)),
            row(3, 1, (-1, 1), (0, 1)), row(3, 2, (-1, -1), (-1, 1)), row(3, 3, (0, -1), (-1, -1))])
        self.assert_rows(stretches(BACK_AND_FORTH, "right", (1, 1), 1), [
            row(0, 0, (0, -1), (4, -1)),
            row(1, 1, (4, -1), (5, -1)), row(1, 2, (5, -1), (5, 1)), row(1, 3, (5, 1), (4, 1)),
            row(2, 0, (4, 1), (0, 1)),
            row(3, 1, (0, 1), (-1, 1)), row(3, 2, (-1, 1), (-1, -1)), row(3, 3, (-1, -1), (0, -1))])

    def test_on_the_left_the_order_is_the_rims(self):
        # Along the side the part behind the crossing is the later one, along the block's edge the first.
        told = [each for each in stretches(CROSSING, "left", (1, 1), 1) if each[0] == 1]
        self.assert_rows(told, [row(1, 2, (6, 1), (9, 1)), row(1, 2, (0, 1), (4, 1))])
        told = [each for each in stretches(CROSSING, "right", (1, 1), 1) if each[0] == 1]
        self.assert_rows(told, [row(1, 0, (0, -1), (4, -1)), row(1, 0, (6, -1), (10, -1))])

    def test_what_is_gone_twice_is_told_of_the_lesser_number(self):
        # Strips 0 and 4 are the same one, of the blocks 0 and 8.
        laid = blocks(OVER_AGAIN, (1, 1), 1)
        same = [number for number, each in enumerate(laid) if each[:2] in (("strip", 0), ("strip", 4))]
        told = [each[0] for each in stretches(OVER_AGAIN, "right", (1, 1), 1)]
        self.assertIn(same[0], told)
        self.assertNotIn(same[1], told)

    def test_they_are_the_rim(self):
        for path in SOME:
            for far, steps in (((1, 2), 1), ((2, 1), 2), ((50, 1), 3)):
                laid = blocks(path, far, steps)
                self.assert_rows(stretches(path, "right", far, steps), rim(laid, "rb"))
                self.assert_rows(stretches(path, "left", far, steps),
                                 [(number, edge, end, begin) for number, edge, begin, end in rim(laid, "bl")])


class Ways(Kinds):
    def test_of_one_side(self):
        self.assert_paths(ways(FLAT, "right", (1, 1), 1), [along((0, -1), (4, -1))])
        self.assert_paths(ways(FLAT, "left", (1, 1), 3), [along((0, 1), (4, 1))])

    def test_there_and_back(self):
        self.assert_paths(ways(BACK_AND_FORTH, "left", (1, 1), 1),
                          [along((0, 1), (5, 1), (5, -1), (-1, -1), (-1, 1), (0, 1))])
        self.assert_paths(ways(BACK_AND_FORTH, "right", (1, 1), 1),
                          [along((0, -1), (5, -1), (5, 1), (-1, 1), (-1, -1), (0, -1))])

    def test_round_to_the_left(self):
        self.assert_paths(ways(SQUARE, "left", (1, 1), 1), [along((1, 1), (3, 1), (3, 3), (1, 3), (1, 1))])
        self.assert_paths(ways(SQUARE, "right", (1, 1), 1),
                          [along((0, -1), (5, -1), (5, 5), (-1, 5), (-1, -1), (0, -1))])

    def test_round_to_the_right(self):
        self.assert_paths(ways(RIGHT_SQUARE, "right", (1, 1), 1), [along((1, 1), (1, 3), (3, 3), (3, 1), (1, 1))])
        self.assert_paths(ways(RIGHT_SQUARE, "left", (1, 1), 1),
                          [along((-1, 0), (-1, 5), (5, 5), (5, -1), (-1, -1), (-1, 0))])

    def test_a_slot(self):
        self.assert_paths(ways(slot(3), "left", (1, 1), 1), [along((1, 6), (1, 1), (2, 1), (2, 6))])
        self.assert_paths(ways(slot("2001/1000"), "left", (1, 1), 1),
                          [along((1, 6), (1, 1), ("1001/1000", 1), ("1001/1000", 6))])
        self.assert_paths(ways(slot(2), "left", (1, 1), 1), [])
        self.assert_paths(ways(slot("3/2"), "left", (1, 1), 1), [])
        self.assert_paths(ways(slot("1/2"), "left", (1, 1), 1), [])

    def test_inside_no_room(self):
        for far in ((2, 1), (5, 2), (50, 1)):
            self.assert_paths(ways(SQUARE, "left", far, 1), [])
            self.assertEqual(len(ways(SQUARE, "right", far, 1)), 1)

    def test_straight_on_makes_one_side(self):
        path = (ORIGIN, (side(2, 0), side(5, 0), side(5, 4)))
        self.assert_paths(ways(path, "right", (1, 1), 1), [along((0, -1), (6, -1), (6, 4))])
        self.assert_paths(ways(path, "left", (1, 1), 1), [along((0, 1), (4, 1), (4, 4))])

    def test_but_not_where_the_way_begins(self):
        path = (whole(2, 0), (side(4, 0), side(4, 4), side(0, 4), side(0, 0), side(2, 0)))
        self.assert_paths(ways(path, "left", (1, 1), 1), [along((2, 1), (3, 1), (3, 3), (1, 3), (1, 1), (2, 1))])

    def test_ways_that_meet_at_one_point_twice(self):
        self.assert_paths(ways(TWICE, "right", (1, 1), 1),
                          [along((-1, 6), (-1, -1), (5, -1), (5, -7), (-1, -7), (-1, -1), (-8, -1))])
        # Two rooms whose corners meet at (4, 4): which stretch is the first there tells how it goes on.
        path = along((3, 0), (8, 0), (8, 5), (5, 5), (5, 8), (0, 8), (0, 3), (3, 3), (3, 0))
        self.assert_paths(ways(path, "left", (1, 1), 1),
                          [along((4, 1), (7, 1), (7, 4), (4, 4), (4, 7), (1, 7), (1, 4), (4, 4), (4, 1))])

    def test_a_closed_way_goes_not_on_where_another_one_begins(self):
        # The first stretch begins at (4, 4), where the corners of two rooms meet: the small arc bears none inside.
        path = (whole(6, 4), (arc(5, 4, 5, 5, "left"), side(5, 8), side(0, 8), side(0, 3), side(3, 3), side(3, 0),
                              side(6, 0), side(6, 4)))
        self.assert_paths(ways(path, "left", (1, 1), 1), [along((4, 4), (4, 7), (1, 7), (1, 4), (4, 4)),
                                                          along((5, 4), (4, 4), (4, 1), (5, 1), (5, 4))])

    def test_several_ways(self):
        self.assert_paths(ways(CROSSING, "right", (1, 1), 1), [
            along((0, -1), (4, -1), (4, -5)),
            along((6, -1), (11, -1), (11, 6), (4, 6), (4, 1))])
        self.assert_paths(ways(CROSSING, "left", (1, 1), 1),
                          [along((0, 1), (4, 1)), along((6, -1), (6, -5)),
                           along((6, 1), (9, 1), (9, 4), (6, 4), (6, 1))])

    def test_by_a_second_reckoning(self):
        for path in SOME:
            for hand in SIDES:
                for far, steps in (((1, 2), 1), ((1, 1), 2), ((7, 3), 3), ((50, 1), 1)):
                    told = ways(path, hand, far, steps)
                    self.assert_paths(told, own_ways(stretches(path, hand, far, steps)))
                    for each in told:
                        self.assert_truth(is_path(each), True)

    def test_they_have_all_stretches_and_nothing_else(self):
        for path in SOME:
            for hand in SIDES:
                rows = [each[2:] for each in stretches(path, hand, (1, 1), 2)]
                self.assertEqual(put_together(sides_of(ways(path, hand, (1, 1), 2))), put_together(rows))


class Whole(Kinds):
    """What [1] promises of ways."""

    def test_at_least_the_half_width_away_and_no_further_than_most_off(self):
        for path in SOME:
            for far, steps in (((1, 2), 1), ((7, 3), 2)):
                most = most_off(path, far, steps)
                above = ratio(Fraction(*most) + Fraction(1, BIG))
                for hand in SIDES:
                    for begin, end in sides_of(ways(path, hand, far, steps)):
                        for at in parts_of_way(begin, end):
                            self.assert_truth(is_near(path, point(*at), far), False)
                            self.assert_truth(is_near(path, point(*at), above), True)

    def test_of_a_straight_sides_own_stretch_just_the_half_width(self):
        for path in SOME:
            for far, steps in (((1, 2), 1), ((7, 3), 2)):
                laid, square = blocks(path, far, steps), Fraction(*far) ** 2
                for hand in SIDES:
                    for number, _, begin, end in stretches(path, hand, far, steps):
                        if laid[number][0] == "strip":
                            for at in parts_of_way(begin, end):
                                self.assertEqual(Fraction(*apart(path, laid[number][1], point(*at))), square)

    def test_each_side_is_beside_its_way_or_left_out(self):
        for path in SOME:
            for far, steps in (((1, 2), 1), ((7, 3), 2)):
                laid = blocks(path, far, steps)
                for hand in SIDES:
                    segments = put_together(sides_of(ways(path, hand, far, steps)))
                    rows = [(number, Fraction(*low), Fraction(*high))
                            for number, low, high, _ in left_out(path, hand, far, steps)]
                    for number, ends in strip_edges(laid, hand).items():
                        begin, end = ends if hand == "right" else ends[::-1]
                        parts = sorted({Fraction(k, 16) for k in range(17)}
                                       | {each for one, *pair_of in rows if one == number for each in pair_of})
                        for low, high in zip(parts, parts[1:]):
                            at = between(begin, end, (low + high) / 2)
                            is_out = any(one == number and least < (low + high) / 2 < most for one, least, most in rows)
                            is_beside = any(off_edge(each, at) == 0 and each[0] <= at <= each[1] for each in segments)
                            self.assertNotEqual(is_out, is_beside, (path, far, hand, number, low, high))

    def test_turned_about(self):
        for path in SOME:
            for far, steps in (((1, 1), 1), ((7, 3), 3)):
                for hand, other in (SIDES, SIDES[::-1]):
                    self.assertEqual(put_together(sides_of(ways(path, hand, far, steps))),
                                     put_together(sides_of(ways(turned_about(path), other, far, steps))))

    def test_mirrored(self):
        for path in SOME:
            for far, steps in (((1, 1), 1), ((7, 3), 3)):
                for hand, other in (SIDES, SIDES[::-1]):
                    rows = sides_of(ways(mirrored(path), other, far, steps))
                    self.assertEqual(put_together(sides_of(ways(path, hand, far, steps))),
                                     put_together([(flip(begin), flip(end)) for begin, end in rows]))

    def test_moved(self):
        vector = point("7/3", "-5/2")
        for path in SOME:
            told = ways(path, "left", (1, 1), 1)
            self.assertEqual(ways(moved(path, vector), "left", (1, 1), 1), [moved(each, vector) for each in told])


class LeftOut(Kinds):
    def assert_left_out(self, thing, asked):
        self.assertIs(type(thing), list)
        for each in thing:
            self.assertIs(type(each), tuple)
            self.assertEqual(len(each), 4)
            self.assert_number(each[0])
            self.assert_fraction(each[1])
            self.assert_fraction(each[2])
            self.assert_number(each[3])
        self.assertEqual(thing, asked)

    def test_nothing(self):
        for hand in SIDES:
            self.assert_left_out(left_out(FLAT, hand, (1, 1), 1), [])
            self.assert_left_out(left_out(BACK_AND_FORTH, hand, (1, 1), 1), [])
        self.assert_left_out(left_out(SQUARE, "right", (1, 1), 1), [])
        self.assert_left_out(left_out(PATHS["quarter left"], "left", (50, 1), 1), [])

    def test_in_part(self):
        self.assert_left_out(left_out(SQUARE, "left", (1, 1), 1), [
            part(0, 0, "1/4", 6), part(0, "3/4", 1, 2), part(1, 0, "1/4", 0), part(1, "3/4", 1, 4),
            part(2, 0, "1/4", 2), part(2, "3/4", 1, 6), part(3, 0, "1/4", 4), part(3, "3/4", 1, 0)])
        self.assert_left_out(left_out(CROSSING, "right", (1, 1), 1),
                             [part(0, "2/5", "3/5", 7), part(3, "2/5", "3/5", 1)])

    def test_wholly_by_two_blocks_at_once_the_least_number(self):
        # Blocks: a cap, strip 0, a fan, strip 1 (of number 3), a fan, strip 2 (of number 5), a cap.
        self.assert_left_out(left_out(slot(2), "left", (1, 1), 1), [
            part(0, 0, "5/6", 5), part(0, "5/6", 1, 3), part(1, 0, "1/2", 1), part(1, "1/2", 1, 5), part(2, 0, 1, 1)])
        self.assert_left_out(left_out(slot("3/2"), "left", (1, 1), 1), [
            part(0, 0, "5/6", 5), part(0, "5/6", 1, 3), part(1, 0, "2/3", 1), part(1, "2/3", 1, 5), part(2, 0, 1, 1)])

    def test_wholly_within_one_block(self):
        self.assert_left_out(left_out(slot("1/2"), "left", (1, 1), 1),
                             [part(0, 0, 1, 5), part(1, 0, 1, 1), part(2, 0, 1, 1)])

    def test_what_only_touches_bars_where_it_lies_beyond(self):
        self.assertEqual(left_out(slot(2), "left", (1, 1), 1)[0], part(0, 0, "5/6", 5))
        # A strip on the same line and on the same hand bars nothing.
        self.assertEqual([each for each in left_out(OVER_AGAIN, "right", (1, 1), 1) if each[0] == 0], [])

    def test_by_a_second_reckoning(self):
        for path in SOME[::2]:
            for hand in SIDES:
                for far, steps in (((1, 2), 1), ((7, 3), 1)):
                    self.assert_left_out(left_out(path, hand, far, steps), own_left_out(path, hand, far, steps))

    def test_rising(self):
        for path in SOME:
            for hand in SIDES:
                told = [(number, Fraction(*low), Fraction(*high), bar)
                        for number, low, high, bar in left_out(path, hand, (2, 1), 2)]
                self.assertEqual(told, sorted(told))
                for number, low, high, bar in told:
                    self.assertTrue(0 <= low < high <= 1)
                    self.assertEqual(path[1][number][0], "side")
                for one, other in zip(told, told[1:]):
                    self.assertTrue(one[0] < other[0] or one[2] < other[1]
                                    or (one[2] == other[1] and one[3] != other[3]))


class Shows(Kinds):
    def assert_shows(self, asked, thing, path=SQUARE, hand="left", far=(1, 1), steps=1):
        before = copy.deepcopy(thing)
        self.assert_truth(shows_left_out(path, hand, far, steps, thing), asked)
        self.assertEqual(thing, before)

    def told(self):
        return left_out(SQUARE, "left", (1, 1), 1)

    def test_what_left_out_tells(self):
        for path in SOME:
            for hand in SIDES:
                for far in ((1, 2), (7, 3)):
                    self.assert_shows(True, left_out(path, hand, far, 1), path, hand, far, 1)

    def test_nothing(self):
        self.assert_shows(True, [], FLAT)
        self.assert_shows(False, [], SQUARE)
        self.assert_shows(True, [], SQUARE, "right")
        self.assert_shows(False, self.told(), SQUARE, "right")

    def test_another_kind(self):
        for thing in (None, True, False, 0, 1, "", "[]", (), tuple(self.told()), [[]], [()], [None], [True], [7], [""],
                      [[self.told()]], [self.told()], [self.told(), self.told()], ["abcd"], [(0, 1, 2, 3)]):
            self.assert_shows(False, thing)
            if thing:
                self.assert_shows(False, thing, FLAT)
        for thing in (None, False, 0, "", ()):
            self.assert_shows(False, thing, FLAT)

    def test_another_kind_in_a_tuple(self):
        for at in range(8):
            for place in range(4):
                for wrong in (None, True, False, "", "0", [], (), [0], (0,), [0, 1], (0, 0), (True, 1), (1, True),
                              (0, False), ("0", "1"), (None, 1), ((0, 1), (1, 1)), [[0, 1]], (0, 1, 1), -1, 99):
                    thing = self.told()
                    row_of = list(thing[at])
                    row_of[place] = wrong
                    thing[at] = tuple(row_of)
                    self.assert_shows(False, thing)

    def test_true_and_false_are_no_numbers(self):
        thing = self.told()
        self.assertEqual(thing[1], part(0, "3/4", 1, 2))
        self.assertEqual(thing[2][0], 1)
        thing[2] = (True,) + thing[2][1:]
        self.assert_shows(False, thing)
        thing = self.told()
        thing[2] = thing[2][:3] + (False,)
        self.assert_shows(False, thing)
        thing = self.told()
        thing[1] = (0, (3, 4), (True, 1), 2)
        self.assert_shows(False, thing)
        thing[1] = (0, (3, 4), (1, True), 2)
        self.assert_shows(False, thing)

    def test_lists_for_tuples(self):
        for at in range(8):
            thing = self.told()
            thing[at] = list(thing[at])
            self.assert_shows(False, thing)
            for place in (1, 2):
                thing = self.told()
                row_of = list(thing[at])
                row_of[place] = list(row_of[place])
                thing[at] = tuple(row_of)
                self.assert_shows(False, thing)

    def test_too_few_and_too_many_in_a_tuple(self):
        for change in (lambda each: each[:3], lambda each: each + (0,), lambda each: each + each, lambda each: (each,)):
            thing = self.told()
            thing[0] = change(thing[0])
            self.assert_shows(False, thing)

    def test_fractions_not_in_lowest_terms(self):
        for wrong in ((2, 8), (-1, -4), (0, 4)):
            thing = self.told()
            thing[0] = (0, (0, 1), wrong, 6)
            self.assert_shows(False, thing)
        thing = self.told()
        thing[0] = (0, (0, 2), (1, 4), 6)
        self.assert_shows(False, thing)
        thing[0] = (0, (0, -1), (1, 4), 6)
        self.assert_shows(False, thing)
        thing[0] = (0, (0, 0), (1, 4), 6)
        self.assert_shows(False, thing)

    def test_parted_in_two(self):
        thing = self.told()
        thing[:1] = [part(0, 0, "1/999", 6), part(0, "1/999", "1/5", 6), part(0, "1/5", "1/4", 6)]
        self.assert_shows(True, thing)
        thing[-1:] = [part(3, "3/4", "4/5", 0), part(3, "4/5", 1, 0)]
        self.assert_shows(True, thing)
        thing[5:6] = [part(1, "3/4", "7/8", 4), part(1, "7/8", 1, 4)]
        self.assert_shows(True, thing)
        thing[5], thing[6] = thing[6], thing[5]
        self.assert_shows(False, thing)
        thing[5], thing[6] = thing[6], thing[5]
        self.assert_shows(True, thing)
        thing[1] = part(0, "2/999", "1/5", 6)
        self.assert_shows(False, thing)
        thing[1] = part(0, "1/1000", "1/5", 6)
        self.assert_shows(False, thing)
        thing[:3] = [part(0, 0, "1/8", 6), part(0, "1/8", "1/8", 6), part(0, "1/8", "1/4", 6)]
        self.assert_shows(False, thing)

    def test_put_together(self):
        # Where one block bars both parts they may be told as one.
        path = slot("3/2")
        told = left_out(path, "left", (1, 1), 1)
        self.assertEqual(told[:2], [part(0, 0, "5/6", 5), part(0, "5/6", 1, 3)])
        self.assert_shows(True, [part(0, 0, 1, 5)] + told[2:], path)
        self.assert_shows(False, [part(0, 0, 1, 3)] + told[2:], path)
        thing = self.told()
        thing[:2] = [part(0, 0, 1, 6)]
        self.assert_shows(False, thing)

    def test_left_out_twice_exchanged(self):
        for at in range(8):
            thing = self.told()
            del thing[at]
            self.assert_shows(False, thing)
            thing = self.told()
            thing.insert(at, thing[at])
            self.assert_shows(False, thing)
            thing = self.told()
            thing.append(thing.pop(at))
            self.assert_shows(at == 7, thing)
            thing = self.told()
            thing[at], thing[at - 1] = thing[at - 1], thing[at]
            self.assert_shows(False, thing)

    def test_more_than_is_left_out(self):
        thing = self.told()
        thing.append(part(4, 0, 1, 0))
        self.assert_shows(False, thing)
        thing = self.told()
        thing.insert(0, part(-1, 0, "1/4", 6))
        self.assert_shows(False, thing)
        thing = self.told()
        thing[0] = part(0, "-1/9", "1/4", 6)
        self.assert_shows(False, thing)
        thing[0] = part(0, 0, "251/1000", 6)
        self.assert_shows(False, thing)
        thing[0] = part(0, 0, "249/1000", 6)
        self.assert_shows(False, thing)
        thing = self.told()
        thing[-1] = part(3, "3/4", "10/9", 0)
        self.assert_shows(False, thing)

    def test_another_bar(self):
        laid = blocks(SQUARE, (1, 1), 1)
        for at in range(8):
            for bar in list(range(-len(laid), len(laid) + 2)) + [BIG]:
                thing = self.told()
                asked = bar == thing[at][3]
                thing[at] = thing[at][:3] + (bar,)
                self.assert_shows(asked, thing)

    def test_a_bar_below_nought_is_none(self):
        path = PATHS["mid square"]
        last, told = len(blocks(path, (1, 1), 1)) - 1, left_out(path, "left", (1, 1), 1)
        at = [each[3] for each in told].index(last)
        self.assert_shows(True, told, path)
        for bar in (-1, -1 - last):
            thing = list(told)
            thing[at] = told[at][:3] + (bar,)
            self.assert_shows(False, thing, path)

    def test_a_bar_that_bars_there_too(self):
        path = slot("3/2")
        told = left_out(path, "left", (1, 1), 1)
        self.assertEqual(told[1:3], [part(0, "5/6", 1, 3), part(1, 0, "2/3", 1)])
        thing = list(told)
        thing[1] = part(0, "5/6", 1, 5)
        self.assert_shows(True, thing, path)
        thing[2:4] = [part(1, 0, "1/3", 1), part(1, "1/3", 1, 5)]
        self.assert_shows(True, thing, path)
        thing[2:4] = [part(1, 0, "1/4", 1), part(1, "1/4", 1, 5)]
        self.assert_shows(False, thing, path)
        thing[2:4] = [part(1, 0, "3/5", 1), part(1, "3/5", 1, 5)]
        self.assert_shows(True, thing, path)
        thing[0] = part(0, 0, "5/6", 3)
        self.assert_shows(False, thing, path)
        # What touches the edge from beyond bars it, what touches it from the strip's own hand doesn't.
        told = left_out(slot(2), "left", (1, 1), 1)
        self.assert_shows(True, [part(0, 0, 1, 5)] + told[2:], slot(2))
        self.assert_shows(False, [part(0, 0, 1, 1)] + told[2:], slot(2))

    def test_a_number_of_no_side(self):
        path = PATHS["winding"]
        told = left_out(path, "left", (1, 1), 1)
        self.assertTrue(told)
        for number in (1, 3, 5, 8, -1, BIG):
            thing = [(number,) + told[0][1:]] + told[1:]
            self.assert_shows(False, thing, path)
            self.assert_shows(False, told + [(number, (0, 1), (1, 2), told[0][3])], path)

    def test_each_other_bar_by_a_second_reckoning(self):
        for path in SOME[:24]:
            laid = blocks(path, (2, 1), 1)
            outlines, told = [outline_of(block) for block in laid], left_out(path, "right", (2, 1), 1)
            for at, (number, low, high, _) in enumerate(told):
                ends = strip_edges(laid, "right")[number]
                parts = [each for each in crossing_parts(*ends, outlines) if Fraction(*low) <= each <= Fraction(*high)]
                for bar, outline in enumerate(outlines):
                    asked = all(does_bar(outline, ends, between(*ends, (one + other) / 2))
                                for one, other in zip(parts, parts[1:]))
                    thing = list(told)
                    thing[at] = (number, low, high, bar)
                    self.assert_shows(asked, thing, path, "right", (2, 1))

    def test_things_of_all_sorts(self):
        asker = random.Random(31)

        def some(deep):
            if deep == 0 or asker.random() < 0.3:
                return asker.choice((0, 1, -1, BIG, True, False, None, "", "left", 3))
            return asker.choice((list, tuple))(some(deep - 1) for _ in range(asker.randint(0, 4)))

        for _ in range(300):
            self.assert_shows(False, some(12))
        deep = (0, 1)
        for _ in range(11):
            deep = [deep]
            self.assert_shows(False, deep)
            self.assert_shows(False, self.told()[:1] + deep)


class Own(Kinds):
    def test_told_lists_are_the_askers_own(self):
        for path in (SQUARE, CROSSING, PATHS["winding"]):
            for ask in (stretches, ways, left_out):
                first = ask(path, "left", (1, 1), 1)
                kept = copy.deepcopy(first)
                first[0] = None
                first.append("a")
                second = ask(path, "left", (1, 1), 1)
                self.assertIsNot(first, second)
                self.assertEqual(second, kept)
                second.clear()
                self.assertEqual(ask(path, "left", (1, 1), 1), kept)
                self.assert_truth(shows_left_out(path, "left", (1, 1), 1, left_out(path, "left", (1, 1), 1)), True)

    def test_what_is_handed_in_stays_as_it_was(self):
        for path in SOME:
            before = copy.deepcopy(path)
            thing = left_out(path, "left", (1, 1), 1)
            kept = copy.deepcopy(thing)
            stretches(path, "left", (1, 1), 1)
            ways(path, "right", (1, 1), 1)
            shows_left_out(path, "left", (1, 1), 1, thing)
            self.assertEqual(path, before)
            self.assertEqual(thing, kept)

    def test_what_was_told_may_be_handed_in_again(self):
        for path in (SQUARE, CROSSING, PATHS["lens"], PATHS["winding"]):
            for each in ways(path, "right", (1, 1), 2):
                again = ways(each, "right", (1, 3), 2)
                self.assert_paths(again, own_ways(stretches(each, "right", (1, 3), 2)))
                for way in again:
                    self.assert_truth(is_path(way), True)
                thing = left_out(each, "left", most_off(path, (1, 1), 2), 1)
                self.assert_truth(shows_left_out(each, "left", most_off(path, (1, 1), 2), 1, thing), True)

"""Promises [1], [2] and [12]: leads.py."""

import copy
from fractions import Fraction

from sidecut.blocks import blocks
from sidecut.leads import lead_in, lead_out, led, turned_to
from sidecut.near import is_near
from sidecut.paths import is_closed, is_path
from sidecut.ways import ways
from tests.kinds import (BIG, ORIGIN, PATHS, RIGHT_SQUARE, SQUARE, Kinds, along, between, crossing_parts,
                         outline_of, own_is_within, pair, point, ratio, side, some_paths, whole)

SIDES = ("left", "right")
FLAT = (ORIGIN, (side(4, 0),))
# Inside its bend there is room for the cutter, and leads run into the other sides.
BEND = (whole(0, 6), (side(0, 0), side(4, 0), side(4, 6)))
HOOK = (ORIGIN, (side(10, 0), side(10, 5), side(5, 5), side(5, -5)))

SOME = [*PATHS.values(), FLAT, BEND, HOOK, *some_paths(41, 10)]


def own_lead(path, far, steps, begin, end):
    """The path of one side between two pairs, or None, by a look at all between its crossings."""
    outlines = [outline_of(block) for block in blocks(path, far, steps)]
    parts = crossing_parts(begin, end, outlines)
    for low, high in zip(parts, parts[1:]):
        if own_is_within(outlines, between(begin, end, (low + high) / 2)):
            return None
    return along(begin, end)


def far_along(begin, end, long):
    """How far a pair is from another one along a side's direction, so long."""
    x, y = end[0] - begin[0], end[1] - begin[1]
    square = x * x + y * y
    length = Fraction(round(square.numerator ** 0.5), round(square.denominator ** 0.5))
    assert length * length == square
    return (x / length * long, y / length * long)


class Leads(Kinds):
    def assert_lead(self, thing, asked):
        if thing is not None:
            self.assert_path(thing)
            self.assert_truth(is_path(thing), True)
        self.assertEqual(thing, asked)

    def test_of_one_side(self):
        for hand, y in (("left", 1), ("right", -1)):
            way = ways(FLAT, hand, (1, 1), 1)[0]
            self.assert_lead(lead_in(FLAT, hand, (1, 1), 1, way, (5, 2)), along(("-5/2", y), (0, y)))
            self.assert_lead(lead_out(FLAT, hand, (1, 1), 1, way, (5, 2)), along((4, y), ("13/2", y)))

    def test_a_lead_along_an_outer_edge_is_told(self):
        # The cap's edge is on the same line: nothing of the lead is within.
        way = ways(FLAT, "right", (1, 1), 1)[0]
        self.assert_lead(lead_in(FLAT, "right", (1, 1), 1, way, (1, 2)), along(("-1/2", -1), (0, -1)))
        self.assert_lead(lead_in(FLAT, "right", (1, 1), 1, way, (100, 1)), along((-100, -1), (0, -1)))

    def test_none_where_it_runs_into_a_block(self):
        told = ways(HOOK, "right", (1, 1), 1)
        self.assertEqual(told, [along((0, -1), (4, -1), (4, -5)), along((6, -1), (11, -1), (11, 6), (4, 6), (4, 1))])
        self.assert_lead(lead_in(HOOK, "right", (1, 1), 1, told[0], (1, 1)), along((-1, -1), (0, -1)))
        self.assert_lead(lead_out(HOOK, "right", (1, 1), 1, told[0], (1, 1)), along((4, -5), (4, -6)))
        self.assert_lead(lead_in(HOOK, "right", (1, 1), 1, told[1], (1, 999)), None)
        self.assert_lead(lead_out(HOOK, "right", (1, 1), 1, told[1], (1, 999)), None)

    def test_a_longer_one_may_be_none(self):
        # 3 up from (1, 3) the bow ahead begins.
        path = (whole(0, 3), (side(0, 0), side(4, 0), side(4, 7), side(0, 7)))
        way = ways(path, "left", (1, 1), 1)[0]
        self.assertEqual(way, along((1, 3), (1, 1), (3, 1), (3, 6), (0, 6)))
        for long, asked in (((1, 1), along((1, 4), (1, 3))), ((3, 1), along((1, 6), (1, 3))),
                            ((3001, 1000), None), ((4, 1), None)):
            self.assert_lead(lead_in(path, "left", (1, 1), 1, way, long), asked)

    def test_of_closed_ways(self):
        way = ways(SQUARE, "right", (1, 1), 1)[0]
        self.assertEqual(way, along((0, -1), (5, -1), (5, 5), (-1, 5), (-1, -1), (0, -1)))
        self.assert_lead(lead_in(SQUARE, "right", (1, 1), 1, way, (2, 1)), along((-2, -1), (0, -1)))
        self.assert_lead(lead_out(SQUARE, "right", (1, 1), 1, way, (2, 1)), along((0, -1), (2, -1)))
        for number, into, out in ((1, ((5, -3), (5, -1)), ((5, -1), (7, -1))), (2, ((7, 5), (5, 5)), ((5, 5), (5, 7))),
                                  (4, ((-3, -1), (-1, -1)), ((-1, -1), (-1, -3)))):
            turned = turned_to(way, number)
            self.assert_lead(lead_in(SQUARE, "right", (1, 1), 1, turned, (2, 1)), along(*into))
            self.assert_lead(lead_out(SQUARE, "right", (1, 1), 1, turned, (2, 1)), along(*out))

    def test_inside_a_closed_path_none_is_told(self):
        for path, hand in ((SQUARE, "left"), (RIGHT_SQUARE, "right")):
            way = ways(path, hand, (1, 1), 1)[0]
            for number in range(4):
                self.assert_lead(lead_in(path, hand, (1, 1), 1, turned_to(way, number), (1, 9)), None)
                self.assert_lead(lead_out(path, hand, (1, 1), 1, turned_to(way, number), (1, 9)), None)

    def test_by_a_second_reckoning(self):
        for path in (FLAT, BEND, HOOK, SQUARE, PATHS["twelve"], PATHS["back"], PATHS["slot"]):
            for hand in SIDES:
                for long in (Fraction(1, 2), Fraction(9)):
                    for way in ways(path, hand, (1, 1), 1):
                        start, first = pair(way[0]), pair(way[1][0][1])
                        ends = [way[0]] + [each[1] for each in way[1]]
                        ahead, end = pair(ends[-2]), pair(ends[-1])
                        x, y = far_along(start, first, long)
                        self.assert_lead(lead_in(path, hand, (1, 1), 1, way, ratio(long)),
                                         own_lead(path, (1, 1), 1, (start[0] - x, start[1] - y), start))
                        x, y = far_along(ahead, end, long)
                        self.assert_lead(lead_out(path, hand, (1, 1), 1, way, ratio(long)),
                                         own_lead(path, (1, 1), 1, end, (end[0] + x, end[1] + y)))


class TurnedTo(Kinds):
    def test_by_nought_it_is_the_way(self):
        way = ways(SQUARE, "left", (1, 1), 1)[0]
        self.assertEqual(turned_to(way, 0), way)

    def test_each_number(self):
        way = along((1, 1), (3, 1), (3, 3), (1, 3), (1, 1))
        self.assertEqual(ways(SQUARE, "left", (1, 1), 1), [way])
        self.assertEqual(turned_to(way, 1), along((3, 1), (3, 3), (1, 3), (1, 1), (3, 1)))
        self.assertEqual(turned_to(way, 2), along((3, 3), (1, 3), (1, 1), (3, 1), (3, 3)))
        self.assertEqual(turned_to(way, 3), along((1, 3), (1, 1), (3, 1), (3, 3), (1, 3)))
        for number in range(4):
            self.assert_path(turned_to(way, number))
            self.assert_truth(is_path(turned_to(way, number)), True)
            self.assert_truth(is_closed(turned_to(way, number)), True)

    def test_the_last_number_and_on_by_one(self):
        for path in SOME:
            for hand in SIDES:
                for way in ways(path, hand, (1, 1), 1):
                    if is_closed(way):
                        last = len(way[1]) - 1
                        self.assertEqual(turned_to(turned_to(way, last), 1), way)
                        self.assertEqual(turned_to(turned_to(way, 1), last), way)


class Led(Kinds):
    def assert_led(self, thing, asked):
        self.assertIs(type(thing), list)
        for each in thing:
            self.assertIs(type(each), tuple)
            self.assertEqual(len(each), 3)
            self.assert_path(each[1])
            for lead in each[::2]:
                if lead is not None:
                    self.assert_path(lead)
        self.assertEqual(thing, asked)

    def test_open_ways(self):
        self.assert_led(led(FLAT, "left", (1, 1), 1, (2, 1)),
                        [(along((-2, 1), (0, 1)), along((0, 1), (4, 1)), along((4, 1), (6, 1)))])

    def test_of_an_open_way_each_lead_by_itself(self):
        way = along((0, 1), (4, 1))
        self.assertEqual(ways(HOOK, "left", (1, 1), 1)[0], way)
        self.assertEqual(led(HOOK, "left", (1, 1), 1, (1, 1))[0], (along((-1, 1), (0, 1)), way, None))
        self.assertEqual(led(HOOK, "left", (1, 1), 1, (1, 1))[1],
                         (None, along((6, -1), (6, -5)), along((6, -5), (6, -6))))

    def test_closed_ways_with_leads(self):
        way = along((0, -1), (5, -1), (5, 5), (-1, 5), (-1, -1), (0, -1))
        self.assert_led(led(SQUARE, "right", (1, 1), 1, (2, 1)),
                        [(along((-2, -1), (0, -1)), way, along((0, -1), (2, -1)))])

    def test_the_first_number_that_has_both(self):
        # The way begins within a pocket, and its second side ends above it.
        path = along((2, 2), (4, 2), (4, 6), (6, 6), (6, 0), (0, 0), (0, 6), (2, 6), (2, 2))
        way = ways(path, "left", (1, 2), 1)[0]
        self.assertEqual(way, along(("5/2", "5/2"), ("7/2", "5/2"), ("7/2", "13/2"), ("13/2", "13/2"),
                                    ("13/2", "-1/2"), ("-1/2", "-1/2"), ("-1/2", "13/2"), ("5/2", "13/2"),
                                    ("5/2", "5/2")))
        self.assert_led(led(path, "left", (1, 2), 1, (1, 1)),
                        [(along(("5/2", "13/2"), ("7/2", "13/2")), turned_to(way, 2),
                          along(("7/2", "13/2"), ("7/2", "15/2")))])

    def test_closed_ways_without(self):
        way = along((1, 1), (3, 1), (3, 3), (1, 3), (1, 1))
        self.assert_led(led(SQUARE, "left", (1, 1), 1, (1, 2)), [(None, way, None)])

    def test_no_ways(self):
        self.assert_led(led(SQUARE, "left", (3, 1), 1, (1, 2)), [])

    def test_all_as_the_words_have_it(self):
        for path in SOME:
            for hand in SIDES:
                for long in ((1, 3), (7, 1)):
                    asked = []
                    for way in ways(path, hand, (1, 1), 1):
                        rows = []
                        for number in range(len(way[1])) if is_closed(way) else []:
                            turned = turned_to(way, number)
                            rows.append((lead_in(path, hand, (1, 1), 1, turned, long), turned,
                                         lead_out(path, hand, (1, 1), 1, turned, long)))
                        if is_closed(way):
                            rows = [each for each in rows if None not in each] + [(None, way, None)]
                            asked.append(rows[0])
                        else:
                            asked.append((lead_in(path, hand, (1, 1), 1, way, long), way,
                                          lead_out(path, hand, (1, 1), 1, way, long)))
                    self.assert_led(led(path, hand, (1, 1), 1, long), asked)


class Whole(Kinds):
    def test_leads_touch_nothing_nearer_than_the_half_width(self):
        for path in SOME:
            for hand in SIDES:
                for far, steps in (((1, 1), 1), ((1, 2), 3)):
                    for into, way, out in led(path, hand, far, steps, (5, 1)):
                        for lead in (into, out):
                            for k in range(9) if lead is not None else []:
                                at = between(pair(lead[0]), pair(lead[1][0][1]), Fraction(k, 8))
                                self.assert_truth(is_near(path, point(*at), far), False)
                        if into is not None:
                            self.assertEqual(into[1], (("side", way[0]),))
                        if out is not None:
                            self.assertEqual(out[0], way[1][-1][1])


class Own(Kinds):
    def test_told_lists_are_the_askers_own(self):
        for path in (SQUARE, HOOK, PATHS["winding"]):
            first = led(path, "right", (1, 1), 1, (1, 1))
            kept = copy.deepcopy(first)
            first[0] = None
            first.append("a")
            second = led(path, "right", (1, 1), 1, (1, 1))
            self.assertIsNot(first, second)
            self.assertEqual(second, kept)
            second.clear()
            self.assertEqual(led(path, "right", (1, 1), 1, (1, 1)), kept)

    def test_what_is_handed_in_stays_as_it_was(self):
        for path in SOME:
            way = ways(path, "right", (1, 1), 1)[0]
            before = copy.deepcopy((path, way))
            lead_in(path, "right", (1, 1), 1, way, (1, 1))
            lead_out(path, "right", (1, 1), 1, way, (1, 1))
            led(path, "right", (1, 1), 1, (1, 1))
            turned_to(way, 0)
            self.assertEqual((path, way), before)

    def test_what_was_told_may_be_handed_in_again(self):
        way = ways(PATHS["winding"], "left", (1, 3), 3)[0]
        for into, each, out in led(way, "right", (1, 7), 1, ratio(Fraction(BIG, 10 ** 69))):
            self.assert_path(each)
            self.assertEqual(into, lead_in(way, "right", (1, 7), 1, each, ratio(Fraction(BIG, 10 ** 69))))

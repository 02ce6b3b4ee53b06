"""Promises [1] and [2], over the whole program."""

import copy
import pathlib
import random
import subprocess
import sys

from sidecut.blocks import blocks, most_off
from sidecut.cuts import corners_left, cut_bounds, is_cut
from sidecut.desk import answers
from sidecut.errors import BadNumber, BadPath, BadSheet, SideError
from sidecut.fractions import added, compared, fraction, is_fraction, over, root_of, taken, times
from sidecut.leads import lead_in, lead_out, led, turned_to
from sidecut.near import apart, is_near
from sidecut.patches import is_clear, is_in, is_within, rim, size_of
from sidecut.paths import (corners, ends_of, headings, is_closed, is_path, mirrored, moved, radius_of,
                           turned_about)
from sidecut.points import cross, dot, left_of, length_of, minus, plus, scaled, unit_of
from sidecut.rounds import rounds
from sidecut.texts import fraction_from, fraction_text, path_from, path_text
from sidecut.turns import least_dot, quarters_between, tip_of, turned, units_between
from sidecut.ways import left_out, shows_left_out, stretches, ways
from tests.kinds import BACK, ORIGIN, PATHS, QUARTER_LEFT, SQUARE, WINDING, Kinds, flat, point, side, unit, whole

ROOT = pathlib.Path(__file__).resolve().parent.parent
UNITS = [unit(0), unit("1/3"), unit(1), unit("-2/5")]
FAR = (3, 4)
HOOK = (ORIGIN, (side(10, 0), side(10, 5), side(5, 5), side(5, -5)))

SHEET = ("path from 0 0 side 4 0 side 4 4 side 0 4 side 0 0\nclosed\ncutter 1 2\nway left\nleft left\nsize\ncut right\n"
         "lead right 1\nrounds left 1/2 3\noff\ncorners\nnear 1 1 3/2")

TRUTHS = (is_fraction, is_path, is_closed, is_near, is_in, is_within, is_clear, shows_left_out, is_cut)


def asks_of_fractions():
    return [(is_fraction, (1, 2)), (is_fraction, [1, 2]), (fraction, 6, -4), (added, (1, 2), (1, 3)),
            (taken, (1, 2), (1, 3)), (times, (2, 3), (3, 4)), (over, (2, 3), (3, 4)), (compared, (1, 2), (2, 3)),
            (root_of, (9, 4)), (root_of, (2, 1)), (plus, whole(1, 2), whole(3, 4)), (minus, whole(1, 2), whole(3, 4)),
            (scaled, whole(1, 2), (1, 2)), (dot, whole(1, 2), whole(3, 4)), (cross, whole(1, 2), whole(3, 4)),
            (left_of, whole(1, 2)), (length_of, whole(3, 4)), (length_of, whole(1, 1)), (unit_of, whole(3, 4)),
            (unit_of, whole(0, 0)), (turned, UNITS[1], UNITS[2]), (quarters_between, UNITS[1], UNITS[3], 2),
            (units_between, UNITS[1], UNITS[3], 3), (least_dot, UNITS), (tip_of, UNITS[0], UNITS[1])]


def asks_of_a_path(path):
    laid = blocks(path, FAR, 2)
    found = [(is_path, path), (ends_of, path), (is_closed, path), (radius_of, path, 0), (headings, path, 0),
             (corners, path), (turned_about, path), (mirrored, path), (moved, path, point("1/2", -3)),
             (is_near, path, whole(1, 1), (2, 1)), (blocks, path, FAR, 2), (most_off, path, FAR, 2),
             (rim, laid, "lrbe-"), (rim, laid, "e"), (size_of, laid), (is_in, laid, whole(1, 1)),
             (is_within, laid[0], whole(1, 1)), (is_clear, laid, whole(0, 9), whole(9, 0)), (path_text, path)]
    if path[1][0][0] == "side":
        found.append((apart, path, 0, whole(1, 1)))
    for hand in ("left", "right"):
        told = ways(path, hand, FAR, 2)
        found += [(stretches, path, hand, FAR, 2), (ways, path, hand, FAR, 2), (left_out, path, hand, FAR, 2),
                  (shows_left_out, path, hand, FAR, 2, left_out(path, hand, FAR, 2)),
                  (shows_left_out, path, hand, FAR, 2, [None, [(True,)]]), (led, path, hand, FAR, 2, (1, 1)),
                  (rounds, path, hand, FAR, (1, 2), 3, 1), (is_cut, told, FAR, whole(1, 1)), (cut_bounds, told, FAR, 1),
                  (corners_left, path, hand, FAR, 2)]
        for way in told[:1]:
            found += [(lead_in, path, hand, FAR, 2, way, (1, 1)), (lead_out, path, hand, FAR, 2, way, (1, 1))]
            if is_closed(way):
                found.append((turned_to, way, len(way[1]) - 1))
    return found


def all_asks():
    found = asks_of_fractions() + [(fraction_text, (-7, 3)), (fraction_from, "-7/3"), (answers, SHEET), (answers, "")]
    found.append((path_from, path_text(WINDING)))
    for path in (SQUARE, BACK, QUARTER_LEFT, WINDING, HOOK):
        found += asks_of_a_path(path)
    return found


class Whole(Kinds):
    def assert_kinds(self, thing):
        """At every depth there are plain values alone, and True and False nowhere within."""
        if type(thing) in (list, tuple):
            for each in thing:
                self.assert_kinds(each)
        elif thing is not None:
            self.assertIn(type(thing), (int, str))

    def test_kinds_at_every_depth(self):
        for ask, *handed in all_asks():
            told = ask(*handed)
            if ask in TRUTHS:
                self.assertIs(type(told), bool, ask)
            else:
                self.assert_kinds(told)

    def test_lists_are_told_just_where_they_are_named(self):
        many = {ask: 0 for ask in (quarters_between, units_between, ends_of, corners, blocks, rim, stretches, ways, led,
                                   left_out, rounds, corners_left, answers)}
        for ask, *handed in all_asks():
            told = ask(*handed)
            found = list(flat(told))
            if ask in many:
                self.assertIs(type(told), list)
                self.assertEqual(len(found), 1 + (len(told) if ask is rounds else 0), ask)
            else:
                self.assertEqual(found, [], ask)

    def test_all_is_told_the_same_whatever_was_asked_between(self):
        asks = all_asks()
        kept = [copy.deepcopy(ask(*handed)) for ask, *handed in asks]
        asker = random.Random(91)
        for _ in range(2):
            order = list(range(len(asks)))
            asker.shuffle(order)
            for at in order:
                ask, *handed = asks[at]
                told = ask(*handed)
                self.assertEqual(told, kept[at], ask)
                # What is done with a told list is the asker's own affair.
                for each in list(flat(told)):
                    each.clear()

    def test_no_two_told_lists_are_one_and_the_same(self):
        told = [ask(*handed) for ask, *handed in all_asks() + all_asks()]
        lists = list(flat(told))[1:]
        self.assertEqual(len({id(each) for each in lists}), len(lists))

    def test_nothing_that_is_handed_in_is_changed_or_told_back_as_a_list(self):
        for ask, *handed in all_asks():
            before = copy.deepcopy(handed)
            told = ask(*handed)
            self.assertEqual(handed, before, ask)
            own = {id(each) for each in flat(handed)}
            self.assertFalse([each for each in flat(told) if id(each) in own], ask)

    def test_nothing_handed_in_is_kept(self):
        laid = blocks(SQUARE, (1, 1), 1)
        size, rows = size_of(laid), rim(laid, "l")
        thing = left_out(SQUARE, "left", (1, 1), 1)
        told = ways(SQUARE, "right", (1, 1), 1)
        bounds = cut_bounds(told, (1, 1), 1)
        shows_left_out(SQUARE, "left", (1, 1), 1, thing)
        for each in (laid, thing, told):
            each.clear()
        self.assertEqual(size_of([]), (0, 1))
        self.assertEqual(cut_bounds(told, (1, 1), 1), ((0, 1), (0, 1)))
        self.assertIs(shows_left_out(SQUARE, "left", (1, 1), 1, thing), False)
        self.assertEqual(size_of(blocks(SQUARE, (1, 1), 1)), size)
        self.assertEqual(rim(blocks(SQUARE, (1, 1), 1), "l"), rows)
        self.assertEqual(cut_bounds(ways(SQUARE, "right", (1, 1), 1), (1, 1), 1), bounds)

    def test_each_refusal_is_of_its_own_class_alone(self):
        for ask, text, refusal in ((fraction_from, "x", BadNumber), (path_from, "x", BadPath),
                                   (path_from, "from x 0 side 1 0", BadPath), (answers, "x", BadSheet),
                                   (answers, "path x", BadSheet), (answers, "cutter x 1", BadSheet)):
            with self.assertRaises(SideError) as held:
                ask(text)
            self.assertEqual([each for each in (BadNumber, BadPath, BadSheet) if isinstance(held.exception, each)],
                             [refusal])
            self.assertEqual(type(held.exception).__mro__[1:3], (SideError, ValueError))

    def test_what_was_told_may_be_handed_in_again(self):
        for path in (SQUARE, HOOK, PATHS["lens"]):
            for by, found in rounds(path, "right", (1, 1), (1, 3), 2, 2):
                for way in found:
                    self.assertEqual(path_from(path_text(way)) if len(path_text(way)) < 900 else way, way)
                    self.assertIs(is_path(turned_about(mirrored(way))), True)
                    self.assertEqual(size_of(blocks(way, by, 1)), cut_bounds([way], by, 1)[1])
                    self.assertIs(shows_left_out(way, "left", by, 1, left_out(way, "left", by, 1)), True)
                    self.assertEqual(fraction_from(fraction_text(way[0][0])), way[0][0])

    def test_each_file_may_be_the_first_one_that_is_drawn_from(self):
        for file in ("desk", "texts", "cuts", "rounds", "leads", "ways", "patches", "near", "turns", "errors"):
            subprocess.run([sys.executable, "-B", "-c", f"import sidecut.{file}"], check=True, cwd=ROOT)


class Promises(Kinds):
    """[1], from the path to what is cut: the cutter never cuts into the path."""

    def test_what_is_cut_holds_no_point_of_the_path_but_at_its_bound(self):
        for path in (SQUARE, BACK, HOOK, QUARTER_LEFT, WINDING):
            for hand in ("left", "right"):
                told = ways(path, hand, FAR, 2)
                for at in ends_of(path):
                    self.assert_truth(is_cut(told, (749, 1000), at), False)

    def test_beside_a_side_the_cutter_just_touches_it(self):
        for hand in ("left", "right"):
            told = ways(HOOK, hand, (1, 1), 1)
            for x in (1, 2, 7, 8):
                self.assert_truth(is_cut(told, (1, 1), whole(x, 0)), True)
                self.assert_truth(is_cut(told, (999, 1000), whole(x, 0)), False)

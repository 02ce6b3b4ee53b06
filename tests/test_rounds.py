"""Promises [1], [2] and [13]: rounds.py."""

import copy
from fractions import Fraction

from sidecut.blocks import blocks
from sidecut.patches import is_clear
from sidecut.rounds import rounds
from sidecut.ways import ways
from tests.kinds import ORIGIN, PATHS, SQUARE, Kinds, along, flat, ratio, side, some_paths

SOME = [*PATHS.values(), *some_paths(51, 6)]


class Rounds(Kinds):
    def assert_rounds(self, thing, asked):
        self.assertIs(type(thing), list)
        for each in thing:
            self.assertIs(type(each), tuple)
            self.assertEqual(len(each), 2)
            self.assert_fraction(each[0])
            self.assertIs(type(each[1]), list)
            for way in each[1]:
                self.assert_path(way)
        self.assertEqual(thing, asked)

    def test_one_round_alone(self):
        path = (ORIGIN, (side(4, 0),))
        self.assert_rounds(rounds(path, "left", (1, 1), (20, 1), 1, 1), [((1, 1), [along((0, 1), (4, 1))])])

    def test_four(self):
        path = (ORIGIN, (side(4, 0),))
        self.assert_rounds(rounds(path, "right", (1, 1), (1, 2), 4, 1), [
            ((5, 2), [along((0, "-5/2"), (4, "-5/2"))]), ((2, 1), [along((0, -2), (4, -2))]),
            ((3, 2), [along((0, "-3/2"), (4, "-3/2"))]), ((1, 1), [along((0, -1), (4, -1))])])

    def test_rounds_without_room(self):
        self.assert_rounds(rounds(SQUARE, "left", (1, 1), (1, 2), 4, 1), [
            ((5, 2), []), ((2, 1), []),
            ((3, 2), [along(("3/2", "3/2"), ("5/2", "3/2"), ("5/2", "5/2"), ("3/2", "5/2"), ("3/2", "3/2"))]),
            ((1, 1), [along((1, 1), (3, 1), (3, 3), (1, 3), (1, 1))])])

    def test_beyond_fifty(self):
        path = (ORIGIN, (side(4, 0),))
        self.assert_rounds(rounds(path, "left", (50, 1), (20, 1), 4, 3), [
            ((by, 1), [along((0, by), (4, by))]) for by in (110, 90, 70, 50)])

    def test_all_as_the_words_have_it(self):
        for path in SOME:
            for hand in ("left", "right"):
                for far, step, many, steps in (((1, 2), (1, 3), 3, 1), ((2, 1), (7, 2), 2, 2)):
                    bys = [ratio(Fraction(*far) + k * Fraction(*step)) for k in range(many)[::-1]]
                    self.assert_rounds(rounds(path, hand, far, step, many, steps),
                                       [(by, ways(path, hand, by, steps)) for by in bys])

    def test_each_one_lies_outside_all_nearer_ones(self):
        for path in SOME:
            for hand in ("left", "right"):
                told = rounds(path, hand, (1, 2), (2, 3), 3, 1)
                for number, (_, outer) in enumerate(told):
                    for by, _ in told[number:]:
                        laid = blocks(path, by, 1)
                        for start, pieces in outer:
                            for _, to in pieces:
                                self.assert_truth(is_clear(laid, start, to), True)
                                start = to


class Own(Kinds):
    def test_told_lists_are_the_askers_own(self):
        told = rounds(SQUARE, "left", (1, 2), (1, 2), 4, 1)
        kept = copy.deepcopy(told)
        lists = list(flat(told))
        self.assertEqual(len({id(each) for each in lists}), 5)
        for each in lists:
            each.append(None)
        again = rounds(SQUARE, "left", (1, 2), (1, 2), 4, 1)
        self.assertEqual(again, kept)
        self.assertFalse({id(each) for each in flat(again)} & {id(each) for each in lists})

    def test_what_is_handed_in_stays_as_it_was(self):
        for path in SOME:
            before = copy.deepcopy(path)
            rounds(path, "right", (1, 1), (1, 1), 2, 1)
            self.assertEqual(path, before)

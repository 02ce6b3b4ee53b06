"""Promises [2] and [9]: patches.py."""

import copy
import random
from fractions import Fraction

from sidecut.blocks import blocks
from sidecut.patches import is_clear, is_in, is_within, rim, size_of
from tests.kinds import (BIG, BIGGER, PATHS, Kinds, between, crossing_parts, edges_of, grid_block, off_edge,
                         outline_of, own_is_within, own_rim, own_size, pair, point, some_paths, whole)

ALL = "lrbe-"


def block(*corners, marks=None, number=0):
    """A block with such corners, all its edges marked alike where nothing else is told."""
    return ("strip", number, tuple(point(x, y) for x, y in corners), marks or "l" * len(corners))


def box(left, low, right, high, marks="llll"):
    """An upright rectangle: its edges are 0 below, 1 at the right, 2 above, 3 at the left."""
    return block((left, low), (right, low), (right, high), (left, high), marks=marks)


def row(number, edge, begin, end):
    return (number, edge, point(*begin), point(*end))


def whole_rim(number, each):
    """The rows of all edges of a block, each in whole."""
    return [row(number, edge, *ends) for edge, ends in enumerate(edges_of(outline_of(each)))]


def some_lists(seed, many):
    asker = random.Random(seed)
    return [[grid_block(asker, number) for number in range(asker.randint(1, 6))] for _ in range(many)]


SQUARE = box(0, 0, 2, 2)


class Rim(Kinds):
    def test_no_blocks(self):
        for marks in ("", "l", ALL):
            self.assert_rows(rim([], marks), [])

    def test_one_block(self):
        self.assert_rows(rim([SQUARE], "l"), whole_rim(0, SQUARE))
        three = block(("1/2", 0), (3, 0), (1, "7/3"))
        self.assert_rows(rim([three], "l"), whole_rim(0, three))

    def test_marks(self):
        each = block((0, 0), (2, 0), (3, 1), (2, 2), (0, 2), marks="lrbe-")
        rows = whole_rim(0, each)
        self.assert_rows(rim([each], ""), [])
        for edge, mark in enumerate("lrbe-"):
            self.assert_rows(rim([each], mark), [rows[edge]])
        self.assert_rows(rim([each], "eb"), [rows[2], rows[3]])
        self.assert_rows(rim([each], "-rl"), [rows[0], rows[1], rows[4]])
        self.assert_rows(rim([each], "-ebrl"), rows)

    def test_apart(self):
        other = box(3, 0, 4, 1)
        self.assert_rows(rim([SQUARE, other], "l"), whole_rim(0, SQUARE) + whole_rim(1, other))

    def test_touching_at_a_point(self):
        other = box(2, 2, 3, 3)
        self.assert_rows(rim([SQUARE, other], "l"), whole_rim(0, SQUARE) + whole_rim(1, other))
        # A corner in the midst of an edge parts it not.
        tip = block((2, 1), (3, 0), (3, 2))
        self.assert_rows(rim([SQUARE, tip], "l"), whole_rim(0, SQUARE) + whole_rim(1, tip))

    def test_touching_along_a_part_of_an_edge(self):
        other = box(2, 1, 3, 4)
        self.assert_rows(rim([SQUARE, other], "l"), [
            row(0, 0, (0, 0), (2, 0)), row(0, 1, (2, 0), (2, 1)), row(0, 2, (2, 2), (0, 2)), row(0, 3, (0, 2), (0, 0)),
            row(1, 0, (2, 1), (3, 1)), row(1, 1, (3, 1), (3, 4)), row(1, 2, (3, 4), (2, 4)), row(1, 3, (2, 4), (2, 2))])

    def test_touching_in_the_midst_of_an_edge(self):
        other = box(2, "1/2", 3, "3/2")
        rows = rim([SQUARE, other], "l")
        self.assertEqual([each for each in rows if each[:2] == (0, 1)],
                         [row(0, 1, (2, 0), (2, "1/2")), row(0, 1, (2, "3/2"), (2, 2))])
        self.assertEqual([each for each in rows if each[:2] == (1, 3)], [])

    def test_touching_along_a_whole_edge(self):
        other = box(2, 0, 3, 2)
        self.assert_rows(rim([SQUARE, other], "l"),
                         [each for each in whole_rim(0, SQUARE) if each[1] != 1]
                         + [each for each in whole_rim(1, other) if each[1] != 3])

    def test_what_touches_counts_whatever_its_mark(self):
        self.assert_rows(rim([SQUARE, box(2, 0, 3, 2, "----")], "l"),
                         [each for each in whole_rim(0, SQUARE) if each[1] != 1])
        self.assert_rows(rim([SQUARE, box(-1, -1, 5, 5, "rrrr")], "l"), [])

    def test_one_within_another(self):
        outside = box(-1, -1, 4, 4)
        self.assert_rows(rim([SQUARE, outside], "l"), whole_rim(1, outside))
        self.assert_rows(rim([outside, SQUARE], "l"), whole_rim(0, outside))

    def test_the_very_same_block_twice(self):
        self.assert_rows(rim([SQUARE, SQUARE], "l"), whole_rim(0, SQUARE))
        other = (SQUARE[0], 7, SQUARE[2][2:] + SQUARE[2][:2], "llll")
        self.assert_rows(rim([other, SQUARE, SQUARE], "l"), whole_rim(0, other))

    def test_a_cross(self):
        rows = [row(0, 0, (0, 1), (1, 1)), row(0, 0, (2, 1), (3, 1)), row(0, 1, (3, 1), (3, 2)),
                row(0, 2, (3, 2), (2, 2)), row(0, 2, (1, 2), (0, 2)), row(0, 3, (0, 2), (0, 1)),
                row(1, 0, (1, 0), (2, 0)), row(1, 1, (2, 0), (2, 1)), row(1, 1, (2, 2), (2, 3)),
                row(1, 2, (2, 3), (1, 3)), row(1, 3, (1, 3), (1, 2)), row(1, 3, (1, 1), (1, 0))]
        self.assert_rows(rim([box(0, 1, 3, 2), box(1, 0, 2, 3)], "l"), rows)

    def test_an_edge_on_the_same_hand_is_told_of_the_lesser_number(self):
        low, high = box(0, 0, 3, 1), box(1, 0, 5, 2)
        self.assertEqual([each for each in rim([low, high], "l") if each[1] == 0],
                         [row(0, 0, (0, 0), (3, 0)), row(1, 0, (3, 0), (5, 0))])
        self.assertEqual([each for each in rim([high, low], "l") if each[1] == 0],
                         [row(0, 0, (1, 0), (5, 0)), row(1, 0, (0, 0), (1, 0))])
        # In the midst of the greater number's edge both its ends are left to it.
        self.assertEqual([each for each in rim([box(1, 0, 2, 1), box(0, 0, 5, 2)], "l") if each[1] == 0],
                         [row(0, 0, (1, 0), (2, 0)), row(1, 0, (0, 0), (1, 0)), row(1, 0, (2, 0), (5, 0))])

    def test_only_where_both_are_so_marked(self):
        low, high = box(0, 0, 3, 1, "r---"), box(1, 0, 5, 2, "l---")
        self.assert_rows(rim([low, high], "l"), [row(1, 0, (1, 0), (5, 0))])
        self.assert_rows(rim([low, high], "r"), [row(0, 0, (0, 0), (3, 0))])
        self.assert_rows(rim([low, high], "lr"), [row(0, 0, (0, 0), (3, 0)), row(1, 0, (3, 0), (5, 0))])

    def test_of_three_on_the_same_hand(self):
        three = [box(0, 0, 2, 1), box(1, 0, 4, 1), box(3, 0, 5, 1)]
        self.assertEqual([each for each in rim(three, "l") if each[1] == 0],
                         [row(0, 0, (0, 0), (2, 0)), row(1, 0, (2, 0), (4, 0)), row(2, 0, (4, 0), (5, 0))])

    def test_edges_that_go_straight_on_stay_two(self):
        each = block((0, 0), (1, 0), (2, 0), (2, 2), (0, 2), marks="lrlll")
        self.assert_rows(rim([each], "lr"), whole_rim(0, each))
        # The part with another mark isn't told of the lesser number, the other one is.
        other = box(0, 0, 2, 1)
        self.assertEqual([found for found in rim([each, other], "l") if found[0] == 1], [row(1, 0, (1, 0), (2, 0))])

    def test_a_gap_closed_by_two_blocks_at_once(self):
        # Neither of both has the whole edge, together they do.
        self.assert_rows(rim([box(0, 0, 4, 1, "--l-"), box(-1, "1/2", 2, 3, "----"), box(2, "1/2", 5, 3, "----")],
                             "l"), [])
        self.assert_rows(rim([box(0, 0, 4, 1, "--l-"), box(-1, "1/2", 1, 3, "----"), box(2, "1/2", 5, 3, "----")],
                             "l"), [row(0, 2, (2, 1), (1, 1))])

    def test_a_ring_has_an_inner_rim(self):
        ring = [box(0, 0, 3, 1), box(2, 0, 3, 3), box(0, 2, 3, 3), box(0, 0, 1, 3)]
        rows = rim(ring, "l")
        for each in (row(0, 2, (2, 1), (1, 1)), row(1, 3, (2, 2), (2, 1)), row(2, 0, (1, 2), (2, 2)),
                     row(3, 1, (1, 1), (1, 2))):
            self.assertIn(each, rows)
        self.assertEqual(len(rows), 8 + 4)

    def test_slanting_blocks_by_hand(self):
        tip = block((1, 1), (4, 1), (4, 2))
        self.assertEqual([each for each in rim([SQUARE, tip], "l") if each[:2] in ((0, 1), (1, 0), (1, 2))],
                         [row(0, 1, (2, 0), (2, 1)), row(0, 1, (2, "4/3"), (2, 2)), row(1, 0, (2, 1), (4, 1)),
                          row(1, 2, (4, 2), (2, "4/3"))])

    def test_by_a_second_reckoning(self):
        asker = random.Random(5)
        for each in some_lists(3, 150):
            marks = "".join(asker.sample(ALL, asker.randint(0, 5)))
            self.assert_rows(rim(each, marks), own_rim(each, marks))

    def test_of_paths_by_a_second_reckoning(self):
        for path in some_paths(4, 8) + [PATHS["cusp"], PATHS["lens"], PATHS["back"]]:
            laid = blocks(path, (3, 2), 1)
            self.assert_rows(rim(laid, "lb"), own_rim(laid, "lb"))
            self.assert_rows(rim(laid, "e-"), own_rim(laid, "e-"))


class Size(Kinds):
    def assert_size(self, laid, asked):
        self.assert_is_fraction(size_of(laid), Fraction(asked))

    def test_none(self):
        self.assert_size([], 0)

    def test_one(self):
        self.assert_size([SQUARE], 4)
        self.assert_size([block((0, 0), (3, 0), (0, "1/2"))], "3/4")
        self.assert_size([block((-3, -3), (-2, -3), (-1, -2), (-3, -1), marks="----")], "5/2")

    def test_several(self):
        self.assert_size([SQUARE, box(2, 2, 3, 3)], 5)
        self.assert_size([SQUARE, box(2, 0, 3, 2)], 6)
        self.assert_size([SQUARE, box(2, 1, 3, 4)], 7)
        self.assert_size([SQUARE, box(-1, -1, 4, 4)], 25)
        self.assert_size([SQUARE, SQUARE, SQUARE], 4)
        self.assert_size([box(0, 1, 3, 2), box(1, 0, 2, 3)], 5)
        self.assert_size([box(0, 0, 3, 1), box(2, 0, 3, 3), box(0, 2, 3, 3), box(0, 0, 1, 3)], 8)
        self.assert_size([box(0, 0, 3, 1), box(1, 0, 5, 2)], 9)

    def test_marks_count_for_nothing(self):
        for marks in ("----", "lr-b", "eeee"):
            self.assert_size([box(0, 0, 3, 1, marks), box(1, 0, 5, 2)], 9)

    def test_the_order_counts_for_nothing(self):
        asker = random.Random(8)
        for each in some_lists(9, 40):
            other = asker.sample(each, len(each))
            self.assertEqual(size_of(other), size_of(each))
            self.assertEqual(size_of(each + other), size_of(each))

    def test_by_a_second_reckoning(self):
        for each in some_lists(6, 150):
            self.assert_size(each, own_size(each))

    def test_of_paths_by_a_second_reckoning(self):
        for path in some_paths(7, 6) + [PATHS["cusp"], PATHS["lens"], PATHS["there and back"]]:
            laid = blocks(path, (3, 2), 1)
            self.assert_size(laid, own_size(laid))

    def test_of_a_path_by_hand(self):
        self.assert_size(blocks((whole(0, 0), (("side", whole(4, 0)),)), (1, 1), 1), 12)
        self.assert_size(blocks(PATHS["square"], (1, 1), 1), 32)


class In(Kinds):
    def test_no_blocks(self):
        self.assert_truth(is_in([], whole(0, 0)), False)

    def test_a_block(self):
        for x, y, asked in ((1, 1, True), (0, 1, True), (2, 2, True), (1, 2, True), (3, 1, False), (1, -1, False),
                            ("-1/999", 1, False), ("1999/999", "1/7", False), ("1997/999", "1/7", True)):
            self.assert_truth(is_in([SQUARE], point(x, y)), asked)

    def test_two_blocks(self):
        two = [SQUARE, box(3, 0, 4, 1)]
        for x, y, asked in ((1, 1, True), ("7/2", "1/2", True), (3, 0, True), ("5/2", 1, False), (3, 2, False)):
            self.assert_truth(is_in(two, point(x, y)), asked)
        self.assert_truth(is_in([SQUARE, box(2, 0, 4, 1)], point(2, "1/2")), True)

    def test_by_a_second_reckoning(self):
        for each in some_lists(10, 30):
            for x in range(-1, 14):
                for y in range(-1, 14):
                    at = (Fraction(x, 2), Fraction(y, 2))
                    asked = any(all(off_edge(edge, at) >= 0 for edge in edges_of(outline_of(one))) for one in each)
                    self.assert_truth(is_in(each, point(*at)), asked)


class Within(Kinds):
    def test_a_block(self):
        for x, y, asked in ((1, 1, True), (0, 1, False), (2, 2, False), (1, 2, False), (3, 1, False), (1, -1, False),
                            ("1/999", 1, True), ("-1/999", 1, False), (5, 0, False)):
            self.assert_truth(is_within(SQUARE, point(x, y)), asked)

    def test_by_a_second_reckoning(self):
        for each in some_lists(11, 30):
            for x in range(-1, 14):
                for y in range(-1, 14):
                    at = (Fraction(x, 2), Fraction(y, 2))
                    asked = all(off_edge(edge, at) > 0 for edge in edges_of(outline_of(each[0])))
                    self.assert_truth(is_within(each[0], point(*at)), asked)


class Clear(Kinds):
    def assert_clear(self, laid, begin, end, asked):
        self.assert_truth(is_clear(laid, point(*begin), point(*end)), asked)
        self.assert_truth(is_clear(laid, point(*end), point(*begin)), asked)
        self.assert_truth(is_clear(laid[::-1], point(*begin), point(*end)), asked)

    def test_no_blocks(self):
        self.assert_clear([], (0, 0), (1, 0), True)

    def test_one_block(self):
        self.assert_clear([SQUARE], (-1, 1), (3, 1), False)
        self.assert_clear([SQUARE], (1, 1), (1, "3/2"), False)
        self.assert_clear([SQUARE], (0, 1), (1, 0), False)
        self.assert_clear([SQUARE], (-1, 3), (3, 3), True)

    def test_along_an_outer_edge(self):
        self.assert_clear([SQUARE], (0, 0), (2, 0), True)
        self.assert_clear([SQUARE], (-1, 0), (5, 0), True)
        self.assert_clear([SQUARE], ("1/2", 2), ("1/3", 2), True)
        self.assert_clear([SQUARE, SQUARE], (2, 0), (2, 2), True)

    def test_along_a_common_edge(self):
        two = [SQUARE, box(2, 0, 3, 2)]
        self.assert_clear(two, (2, 0), (2, 2), False)
        self.assert_clear(two, (2, "1/2"), (2, "2/3"), False)
        self.assert_clear(two, (2, -1), (2, 0), True)
        self.assert_clear(two, (2, -1), (2, "1/999"), False)

    def test_along_edges_on_both_hands_that_have_no_part_in_common(self):
        two = [SQUARE, box(2, 2, 3, 4)]
        self.assert_clear(two, (2, -1), (2, 5), True)
        self.assert_clear([SQUARE, box(2, "3/2", 3, 4)], (2, -1), (2, 5), False)

    def test_the_ends_are_aside(self):
        self.assert_clear([SQUARE], (-1, 1), (0, 1), True)
        self.assert_clear([SQUARE], (3, 3), (2, 2), True)
        self.assert_clear([SQUARE], (-1, 1), ("1/999", 1), False)

    def test_through_a_corner(self):
        self.assert_clear([SQUARE], (1, 3), (3, 1), True)
        self.assert_clear([SQUARE], (1, 3), (3, "999/1000"), False)
        self.assert_clear([SQUARE, box(2, 2, 3, 3)], (1, 3), (3, 1), True)
        # Four corners at one point: the way along two of the edges there is within on both hands.
        four = [SQUARE, box(2, 2, 4, 4), box(2, 0, 4, 2)]
        self.assert_clear(four, (0, 2), (2, 2), True)
        self.assert_clear(four, (2, 2), (4, 2), False)

    def test_between_two_blocks(self):
        self.assert_clear([SQUARE, box(3, 0, 4, 2)], (2, 0), (3, 2), True)
        self.assert_clear([SQUARE, box(3, 0, 4, 2)], (2, 0), (4, 2), False)

    def test_by_a_second_reckoning(self):
        asker = random.Random(12)
        for each in some_lists(13, 80):
            outlines = [outline_of(one) for one in each]
            for _ in range(8):
                begin, end = asker.sample([(x, y) for x in range(-1, 7) for y in range(-1, 7)], 2)
                begin, end = tuple(map(Fraction, begin)), tuple(map(Fraction, end))
                parts = crossing_parts(begin, end, outlines)
                found = [own_is_within(outlines, between(begin, end, part))
                         for low, high in zip(parts, parts[1:]) for part in ((low + high) / 2, high) if part < 1]
                self.assert_truth(is_clear(each, point(*begin), point(*end)), not any(found))


class AnySize(Kinds):
    def test_moved_and_scaled_all_is_moved_and_scaled(self):
        shift, by_that = (Fraction(BIG, 7), Fraction(-3, BIGGER)), Fraction(BIGGER, BIG)

        def change(at):
            return point(*((a + b) * by_that for a, b in zip(pair(at), shift)))

        for each in some_lists(14, 25):
            other = [(word, number, tuple(change(at) for at in corners), marks)
                     for word, number, corners, marks in each]
            rows = [(number, edge, change(begin), change(end)) for number, edge, begin, end in rim(each, "lrb")]
            self.assert_rows(rim(other, "lrb"), rows)
            self.assert_is_fraction(size_of(other), Fraction(*size_of(each)) * by_that * by_that)
            for x in range(7):
                at, to = whole(x, 3), whole(2, 6 - x)
                self.assertEqual(is_in(other, change(at)), is_in(each, at))
                self.assertEqual(is_within(other[0], change(at)), is_within(each[0], at))
                if at != to:
                    self.assertEqual(is_clear(other, change(at), change(to)), is_clear(each, at, to))

    def test_very_small_differences_count(self):
        tiny = Fraction(1, BIGGER)
        one, other = box(0, 0, 1, 1), box(1 - tiny, 0, 2, 1)
        self.assertEqual([each for each in rim([one, other], "l") if each[:2] == (0, 2)],
                         [row(0, 2, (1, 1), (0, 1))])
        self.assertEqual([each for each in rim([one, other], "l") if each[:2] == (1, 2)],
                         [row(1, 2, (2, 1), (1, 1))])
        self.assert_is_fraction(size_of([one, box(1 + tiny, 0, 2, 1)]), 2 - tiny)
        self.assert_truth(is_clear([one], point(0, 1 + tiny), point(1, 1 + tiny)), True)
        self.assert_truth(is_clear([one], point(0, 1 - tiny), point(1, 1 - tiny)), False)
        self.assert_truth(is_in([one], point(1 + tiny, "1/2")), False)
        self.assert_truth(is_within(one, point(1 - tiny, "1/2")), True)


class Own(Kinds):
    def test_what_is_handed_in_stays_as_it_was(self):
        for each in some_lists(15, 10):
            before = copy.deepcopy(each)
            rim(each, ALL)
            size_of(each)
            is_in(each, whole(1, 1))
            is_within(each[0], whole(1, 1))
            is_clear(each, whole(0, 0), whole(3, 4))
            self.assertEqual(each, before)

    def test_changing_a_told_list_changes_nothing_else(self):
        for each in some_lists(16, 10):
            first = rim(each, ALL)
            kept = copy.deepcopy(first)
            first.append(None)
            first[0] = "a"
            second = rim(each, ALL)
            self.assertIsNot(first, second)
            self.assertEqual(second, kept)
            self.assertIsNot(rim(each, ""), rim(each, ""))

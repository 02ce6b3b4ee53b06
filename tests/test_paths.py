"""Promises [2] and [6]: paths.py."""

import copy
from fractions import Fraction

from sidecut.paths import (corners, ends_of, headings, is_closed, is_path, mirrored, moved, radius_of,
                           turned_about)
from tests.kinds import (BIG, BIGGER, CLOSED, CUSP, LENS, LITTLE, MID_SQUARE, MOST_LEFT, MOST_RIGHT,
                         ONE_SIDE, ORIGIN, PAIR_OF_HALVES, PATHS, QUARTER_LEFT, QUARTER_RIGHT,
                         RIGHT_SQUARE, SLOT, SQUARE, STRAIGHT, THERE_AND_BACK, TWELVE, WINDING, Kinds, arc,
                         arc_pairs, begins, pair, point, side, unit, whole)


def places(thing, place=()):
    """The place of each part of nested tuples, from the whole down."""
    yield place, thing
    if isinstance(thing, tuple):
        for at, part in enumerate(thing):
            yield from places(part, place + (at,))


def put(thing, place, part):
    """The nested tuples with that part in that place."""
    if not place:
        return part
    at, rest = place[0], place[1:]
    return thing[:at] + (put(thing[at], rest, part),) + thing[at + 1:]


def is_a_fraction(part):
    return isinstance(part, tuple) and len(part) == 2 and isinstance(part[0], int)


SAMPLES = (SQUARE, ONE_SIDE, QUARTER_LEFT, (whole(4, 0), (arc(0, 0, 0, 4, "right"), side(0, 5))), WINDING)


class RightPaths(Kinds):
    def test_all_samples_are(self):
        for name, path in PATHS.items():
            with self.subTest(name):
                self.assert_truth(is_path(path), True)

    def test_bounds_are_not_looked_at(self):
        far_off = moved(WINDING, ((BIG, 7), (-1, BIGGER)))
        self.assert_truth(is_path(far_off), True)
        self.assert_truth(is_path((ORIGIN, tuple(side(k, 0) for k in range(1, 200)))), True)
        self.assert_truth(is_path((ORIGIN, (side(3 * BIG, 4 * BIG),))), True)
        self.assert_truth(is_path((ORIGIN, (side(Fraction(3, BIGGER), Fraction(4, BIGGER)),))), True)
        self.assert_truth(is_path((whole(BIG, 0), (arc(0, 0, 0, -BIG, "left"),))), True)

    def test_an_arc_may_turn_to_either_hand(self):
        for turn in ("left", "right"):
            self.assert_truth(is_path((whole(5, 0), (arc(0, 0, 3, 4, turn),))), True)

    def test_two_arcs_may_make_a_circle(self):
        self.assert_truth(is_path(PAIR_OF_HALVES), True)

    def test_a_path_may_cross_and_cover_itself(self):
        self.assert_truth(is_path((ORIGIN, (side(4, 0), side(0, 0), side(4, 0)))), True)

    def test_signs_of_words_alone_count_not_where_they_are_from(self):
        word = "".join(["si", "de"])
        self.assert_truth(is_path((ORIGIN, ((word, whole(1, 0)),))), True)


class OtherKinds(Kinds):
    def test_parts_of_other_kinds_at_every_place(self):
        for path in SAMPLES:
            for place, part in places(path):
                wrong = [None, True, False, "", "1", [], (), [part], (part,), [None], "ab"]
                if isinstance(part, tuple):
                    wrong += [0, 1, list(part), "side", "arc"]
                if isinstance(part, str):
                    wrong += [0, 1, part.upper(), part + " ", part[:-1], [part], list(part), tuple(part)]
                for each in wrong:
                    self.assert_truth(is_path(put(path, place, each)), False)

    def test_too_few_or_too_many_parts_at_every_place(self):
        for path in SAMPLES:
            for place, part in places(path):
                if isinstance(part, tuple):
                    wrong = [part + (None,), part + (0,), part + (part[-1],), part + (1,), part + ("left",)]
                    if place != (1,):
                        wrong += [part[:-1], part[1:], part + part]
                    for each in wrong:
                        self.assert_truth(is_path(put(path, place, each)), False)

    def test_lists_for_tuples_at_every_depth(self):
        def listed(thing, depth):
            if not isinstance(thing, tuple):
                return thing
            parts = [listed(part, depth - 1) for part in thing]
            return parts if depth == 0 else tuple(parts)

        for path in SAMPLES:
            for depth in range(5):
                self.assert_truth(is_path(listed(path, depth)), False)

    def test_fractions_not_in_lowest_terms_at_every_place(self):
        for path in SAMPLES:
            for place, part in places(path):
                if is_a_fraction(part):
                    n, d = part
                    for each in [(2 * n, 2 * d), (-n, -d), (n * BIG, d * BIG), (n, 0), (n, -d)]:
                        self.assert_truth(is_path(put(path, place, each)), False)

    def test_truths_are_no_numbers(self):
        self.assert_truth(is_path((((False, 1), (0, 1)), (side(1, 0),))), False)
        self.assert_truth(is_path((((0, True), (0, 1)), (side(1, 0),))), False)
        self.assert_truth(is_path((ORIGIN, (("side", ((True, 1), (0, 1))),))), False)

    def test_words_and_turns(self):
        for word in ("", "Side", "arc", "sides", "side ", "line", "left"):
            self.assert_truth(is_path((ORIGIN, ((word, whole(3, 0)),))), False)
        for word in ("", "Arc", "side", "arcs", "arc ", "left"):
            self.assert_truth(is_path((whole(1, 0), ((word, ORIGIN, whole(0, 1), "left"),))), False)
        for turn in ("", "Left", "RIGHT", "left ", "l", "straight", "back", "lef"):
            self.assert_truth(is_path((whole(1, 0), (arc(0, 0, 0, 1, turn),))), False)

    def test_no_pieces(self):
        self.assert_truth(is_path((ORIGIN, ())), False)
        self.assert_truth(is_path((ORIGIN,)), False)
        self.assert_truth(is_path((ORIGIN, side(1, 0))), False)

    def test_other_things(self):
        for thing in [None, True, False, 0, 1, BIG, "", "from 0 0", [], (), (1, 2), ((0, 1), (0, 1)),
                      [ORIGIN, [["side", [[1, 1], [0, 1]]]]]]:
            self.assert_truth(is_path(thing), False)

    def test_twelve_deep_is_answered(self):
        for kind in (list, tuple):
            for core in (SQUARE, 1, None, "side"):
                thing = core
                for _ in range(7):
                    thing = kind([thing])
                    self.assert_truth(is_path(thing), False)
        deep = None
        for _ in range(4):
            deep = (deep, [deep])
        for place, part in places(QUARTER_LEFT):
            if len(place) < 4:
                self.assert_truth(is_path(put(QUARTER_LEFT, place, deep)), False)


class WrongPieces(Kinds):
    def test_an_end_at_its_begin(self):
        self.assert_truth(is_path((ORIGIN, (side(0, 0),))), False)
        self.assert_truth(is_path((ORIGIN, (side(1, 0), side(1, 0)))), False)
        self.assert_truth(is_path((ORIGIN, (side(1, 0), side(1, 0), side(2, 0)))), False)
        for turn in ("left", "right"):
            self.assert_truth(is_path((whole(1, 0), (arc(0, 0, 1, 0, turn),))), False)
            self.assert_truth(is_path((ORIGIN, (side(1, 0), arc(0, 0, 1, 0, turn)))), False)

    def test_a_side_without_a_length(self):
        for x, y in [(1, 1), (1, 2), (-3, 3), ("1/2", "1/3"), (BIG, BIG)]:
            self.assert_truth(is_path((ORIGIN, (side(x, y),))), False)
        self.assert_truth(is_path((ORIGIN, (side(1, 0), side(2, 0), side(3, 1)))), False)
        self.assert_truth(is_path((whole(1, 1), (side(4, 4), side(4, 5)))), False)

    def test_the_length_is_that_from_the_begin(self):
        self.assert_truth(is_path((whole(1, 1), (side(4, 5),))), True)
        self.assert_truth(is_path((whole(1, 1), (side(3, 4),))), False)
        self.assert_truth(is_path((whole(1, 1), (side(4, 1), side(7, 5)))), True)

    def test_a_middle_not_as_far_from_both_ends(self):
        for turn in ("left", "right"):
            self.assert_truth(is_path((whole(4, 0), (arc(0, 0, 0, 5, turn),))), False)
            self.assert_truth(is_path((whole(4, 0), (arc(0, 0, 8, 0, turn),))), False)
            self.assert_truth(is_path((whole(4, 0), (arc(1, 0, 0, 4, turn),))), False)
            self.assert_truth(is_path((ORIGIN, (side(4, 0), arc(0, 0, 0, 3, turn)))), False)

    def test_a_radius_of_nought(self):
        for turn in ("left", "right"):
            self.assert_truth(is_path((ORIGIN, (arc(0, 0, 0, 0, turn),))), False)
            self.assert_truth(is_path((ORIGIN, (arc(0, 0, 4, 0, turn),))), False)
            self.assert_truth(is_path((whole(4, 0), (arc(0, 0, 0, 0, turn),))), False)

    def test_a_radius_without_a_length(self):
        for turn in ("left", "right"):
            self.assert_truth(is_path((whole(1, 1), (arc(0, 0, -1, 1, turn),))), False)
            self.assert_truth(is_path((whole(2, 0), (arc(1, 1, 0, 2, turn),))), False)
            self.assert_truth(is_path((whole(5, 0), (arc(0, 0, 1, 1, turn),))), False)
            self.assert_truth(is_path((whole(1, 1), (arc(0, 0, 5, 0, turn),))), False)

    def test_the_wrong_piece_may_be_any(self):
        for at in range(len(TWELVE[1])):
            off = put(TWELVE, (1, at), side(100, 101))
            self.assert_truth(is_path(off), False)


class Told(Kinds):
    def test_ends_of(self):
        self.assertEqual(ends_of(SQUARE), [ORIGIN, whole(4, 0), whole(4, 4), whole(0, 4), ORIGIN])
        self.assertEqual(ends_of(ONE_SIDE), [point("1/2", "-1/3"), point("7/2", "11/3")])
        self.assertEqual(ends_of(QUARTER_LEFT), [whole(4, 0), whole(0, 4)])
        self.assertEqual(ends_of(LENS), [whole(3, 0), whole(-3, 0), whole(3, 0)])
        for path in PATHS.values():
            told = ends_of(path)
            self.assertIs(type(told), list)
            self.assertEqual(len(told), len(path[1]) + 1)
            self.assertEqual(told[:-1], begins(path))
            for each in told:
                self.assert_vector(each)

    def test_is_closed(self):
        for name, path in PATHS.items():
            self.assert_truth(is_closed(path), name in CLOSED)

    def test_a_path_is_not_closed_by_going_through_its_start(self):
        self.assert_truth(is_closed((ORIGIN, (side(4, 0), side(0, 0), side(0, 3)))), False)
        self.assert_truth(is_closed((ORIGIN, (side(4, 0), side(-4, 0)))), False)

    def test_radius_of(self):
        self.assertEqual(radius_of(QUARTER_LEFT, 0), (4, 1))
        self.assertEqual(radius_of(LENS, 0), (5, 1))
        self.assertEqual(radius_of(WINDING, 1), (2, 1))
        self.assertEqual(radius_of(WINDING, 5), (3, 2))
        self.assertIsNone(radius_of(WINDING, 0))
        self.assertIsNone(radius_of(ONE_SIDE, 0))
        for path in PATHS.values():
            for number, piece in enumerate(path[1]):
                if piece[0] == "side":
                    self.assertIsNone(radius_of(path, number))
                else:
                    self.assert_is_fraction(radius_of(path, number), arc_pairs(path, number)[1])

    def test_headings_of_sides(self):
        up = ((3, 5), (4, 5))
        self.assertEqual(headings(ONE_SIDE, 0), (up, up))
        self.assertEqual([headings(SQUARE, k)[0] for k in range(4)],
                         [whole(1, 0), whole(0, 1), whole(-1, 0), whole(0, -1)])
        self.assertEqual(headings(THERE_AND_BACK, 1), (((-4, 5), (-3, 5)),) * 2)

    def test_headings_of_arcs(self):
        self.assertEqual(headings(QUARTER_LEFT, 0), (whole(0, 1), whole(-1, 0)))
        self.assertEqual(headings(QUARTER_RIGHT, 0), (whole(1, 0), whole(0, -1)))
        self.assertEqual(headings(MOST_LEFT, 0), (whole(0, 1), whole(1, 0)))
        self.assertEqual(headings(MOST_RIGHT, 0), (whole(0, -1), whole(1, 0)))
        self.assertEqual(headings(LENS, 0), (((-4, 5), (3, 5)), ((-4, 5), (-3, 5))))
        self.assertEqual(headings(WINDING, 1), (whole(1, 0), ((-3, 5), (-4, 5))))

    def test_all_headings(self):
        for path in PATHS.values():
            for number, piece in enumerate(path[1]):
                told = headings(path, number)
                self.assertIs(type(told), tuple)
                self.assertEqual(len(told), 2)
                ends = (begins(path)[number], ends_of(path)[number + 1])
                for each, end in zip(told, ends):
                    self.assert_unit(each)
                    (a, b), (x, y) = pair(each), pair(end)
                    if piece[0] == "side":
                        along = [pair(ends[1])[k] - pair(ends[0])[k] for k in (0, 1)]
                    else:
                        mx, my = pair(piece[1])
                        along = [my - y, x - mx] if piece[3] == "left" else [y - my, mx - x]
                    self.assertEqual(a * along[1] - b * along[0], 0)
                    self.assertGreater(a * along[0] + b * along[1], 0)


class Corners(Kinds):
    def test_of_closed_paths_that_of_piece_nought_too(self):
        self.assertEqual(corners(SQUARE), [(k, "left") for k in range(4)])
        self.assertEqual(corners(RIGHT_SQUARE), [(k, "right") for k in range(4)])
        self.assertEqual(corners(MID_SQUARE), [(0, "straight")] + [(k, "left") for k in range(1, 5)])
        self.assertEqual(corners(THERE_AND_BACK), [(0, "back"), (1, "back")])
        self.assertEqual(corners(LENS), [(0, "left"), (1, "left")])
        self.assertEqual(corners(SLOT), [(k, "straight") for k in range(4)])
        self.assertEqual(corners(CUSP), [(0, "back"), (1, "back")])

    def test_of_open_paths(self):
        self.assertEqual(corners(STRAIGHT), [(1, "straight"), (2, "right")])
        self.assertEqual(corners(PATHS["back"]), [(1, "back"), (2, "right")])
        self.assertEqual(corners(WINDING), [(1, "right"), (2, "left"), (3, "straight"), (4, "back"),
                                            (5, "back"), (6, "straight"), (7, "right")])

    def test_of_one_piece_there_are_none(self):
        for path in (ONE_SIDE, QUARTER_LEFT, QUARTER_RIGHT, MOST_LEFT, LITTLE):
            told = corners(path)
            self.assertIs(type(told), list)
            self.assertEqual(told, [])

    def test_just_a_little_to_a_hand(self):
        for tangent, word in [(Fraction(1, 999), "left"), (Fraction(-1, 999), "right"), (999, "left"),
                              (-999, "right"), (Fraction(1, BIG), "left"), (-BIG, "right")]:
            x, y = pair(unit(tangent))
            path = (whole(-3, 0), (side(0, 0), side(x, y)))
            self.assertEqual(corners(path), [(1, word)])

    def test_kinds(self):
        for path in PATHS.values():
            told = corners(path)
            self.assertIs(type(told), list)
            for each in told:
                self.assertIs(type(each), tuple)
                self.assertEqual(len(each), 2)
                self.assert_number(each[0])
                self.assertIs(type(each[1]), str)
                self.assertIn(each[1], ("straight", "left", "right", "back"))
            first = 0 if path[0] == ends_of(path)[-1] else 1
            self.assertEqual([each[0] for each in told], list(range(first, len(path[1]))))


OTHER = {"left": "right", "right": "left", "straight": "straight", "back": "back"}


class Changed(Kinds):
    def test_turned_about(self):
        self.assertEqual(turned_about(SQUARE), RIGHT_SQUARE)
        self.assertEqual(turned_about(QUARTER_LEFT), QUARTER_RIGHT)
        self.assertEqual(turned_about(QUARTER_RIGHT), QUARTER_LEFT)
        self.assertEqual(turned_about(ONE_SIDE), (point("7/2", "11/3"), (side("1/2", "-1/3"),)))
        path = (ORIGIN, (side(3, 0), arc(3, 1, 4, 1, "left"), side(4, 5), side(0, 5)))
        back = (whole(0, 5), (side(4, 5), side(4, 1), arc(3, 1, 3, 0, "right"), side(0, 0)))
        self.assertEqual(turned_about(path), back)

    def test_turned_about_goes_the_other_way(self):
        for path in PATHS.values():
            told = turned_about(path)
            self.assert_path(told)
            self.assert_truth(is_path(told), True)
            self.assertEqual(ends_of(told), ends_of(path)[::-1])
            self.assertEqual(turned_about(told), path)
            many = len(path[1])
            for number in range(many):
                first, last = (((-a, b), (-c, d)) for (a, b), (c, d) in headings(path, number))
                self.assertEqual(headings(told, many - 1 - number), (last, first))

    def test_mirrored(self):
        self.assertEqual(mirrored(ONE_SIDE), (point("-1/2", "-1/3"), (side("-7/2", "11/3"),)))
        self.assertEqual(mirrored(QUARTER_LEFT), (whole(-4, 0), (arc(0, 0, 0, 4, "right"),)))
        path = (whole(1, 2), (side(4, 6), arc(5, 6, 5, 7, "right")))
        self.assertEqual(mirrored(path), (whole(-1, 2), (side(-4, 6), arc(-5, 6, -5, 7, "left"))))

    def test_mirrored_turns_to_the_other_hand(self):
        for path in PATHS.values():
            told = mirrored(path)
            self.assert_path(told)
            self.assert_truth(is_path(told), True)
            self.assertEqual(mirrored(told), path)
            self.assertEqual(corners(told), [(number, OTHER[word]) for number, word in corners(path)])

    def test_moved(self):
        self.assertEqual(moved(QUARTER_LEFT, point("1/2", -3)),
                         (point("9/2", -3), (arc("1/2", -3, "1/2", 1, "left"),)))
        self.assertEqual(moved(ONE_SIDE, point("-1/2", "1/3")), (ORIGIN, (side(3, 4),)))

    def test_moved_keeps_all_else(self):
        for path in PATHS.values():
            for vector in (ORIGIN, point("1/3", -7), ((BIG, 7), (-1, BIGGER))):
                told = moved(path, vector)
                self.assert_path(told)
                self.assert_truth(is_path(told), True)
                self.assertEqual(corners(told), corners(path))
                (x, y), ends = pair(vector), [pair(end) for end in ends_of(path)]
                self.assertEqual([pair(end) for end in ends_of(told)], [(x + a, y + b) for a, b in ends])
                back = moved(told, ((-vector[0][0], vector[0][1]), (-vector[1][0], vector[1][1])))
                self.assertEqual(back, path)


class Own(Kinds):
    def test_changing_a_told_list_changes_nothing_else(self):
        for path in PATHS.values():
            for deed in (ends_of, corners):
                first = deed(path)
                kept = list(first)
                first.append(None)
                first[0] = "a"
                second = deed(path)
                self.assertIsNot(first, second)
                self.assertEqual(second, kept)
                second.clear()
                self.assertEqual(deed(path), kept)

    def test_what_is_handed_to_is_path_stays_as_it_was(self):
        for thing in [[ORIGIN, [["side", [[1, 1], [0, 1]]]]], ([], [1]), (ORIGIN, [side(1, 0)]),
                      (ORIGIN, (["side", whole(1, 0)],)), [[[None, [True]], "a"], 1]]:
            before = copy.deepcopy(thing)
            self.assert_truth(is_path(thing), False)
            self.assertEqual(thing, before)

    def test_what_is_handed_to_is_path_is_not_kept(self):
        inner = [1]
        thing = (ORIGIN, (("side", ((inner, 1), (0, 1))),))
        self.assert_truth(is_path(thing), False)
        inner.append(2)
        self.assert_truth(is_path(thing), False)
        self.assertEqual(inner, [1, 2])
        self.assert_truth(is_path((ORIGIN, (side(1, 0),))), True)

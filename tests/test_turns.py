"""Promises [2] and [5]: turns.py."""

from fractions import Fraction

from sidecut.turns import least_dot, quarters_between, tip_of, turned, units_between
from tests.kinds import (BIG, BIGGER, UNITS, Kinds, by_turns, own_quarters, own_units, pair, point,
                         turn_between, unit, whole)

EAST, NORTH, WEST, SOUTH = whole(1, 0), whole(0, 1), whole(-1, 0), whole(0, -1)
A, B = ((4, 5), (3, 5)), ((3, 5), (4, 5))
C, D = ((5, 13), (12, 13)), ((12, 13), (5, 13))
PAIRS = [(one, other) for one in UNITS for other in UNITS if one != other]
# The last two units have so many figures that each pair with them takes long.
PLAIN_PAIRS = [(one, other) for one in UNITS[:-2] for other in UNITS[:-2] if one != other]


def mirrored(each):
    return ((-each[0][0], each[0][1]), each[1])


class Turned(Kinds):
    def test_plain_ones(self):
        self.assertEqual(turned(EAST, B), B)
        self.assertEqual(turned(NORTH, B), ((-4, 5), (3, 5)))
        self.assertEqual(turned(B, NORTH), ((-4, 5), (3, 5)))
        self.assertEqual(turned(B, EAST), B)
        self.assertEqual(turned(B, WEST), ((-3, 5), (-4, 5)))
        self.assertEqual(turned(B, ((3, 5), (-4, 5))), EAST)
        self.assertEqual(turned(SOUTH, SOUTH), WEST)

    def test_all(self):
        for one in UNITS:
            for by in UNITS:
                told = turned(one, by)
                self.assert_unit(told)
                self.assertEqual(pair(told), by_turns(pair(one), pair(by)))


class QuartersBetween(Kinds):
    def test_a_quarter(self):
        self.assertEqual(quarters_between(EAST, NORTH, 1), [EAST, NORTH])
        self.assertEqual(quarters_between(EAST, NORTH, 2), [EAST, B, NORTH])
        self.assertEqual(quarters_between(EAST, NORTH, 3), [EAST, A, C, NORTH])

    def test_half_a_turn(self):
        self.assertEqual(quarters_between(EAST, WEST, 1), [EAST, NORTH, WEST])
        self.assertEqual(quarters_between(EAST, WEST, 2),
                         [EAST, B, NORTH, ((-4, 5), (3, 5)), WEST])

    def test_three_quarters(self):
        self.assertEqual(quarters_between(EAST, SOUTH, 1), [EAST, NORTH, WEST, SOUTH])
        self.assertEqual(quarters_between(NORTH, EAST, 1), [NORTH, WEST, SOUTH, EAST])
        self.assertEqual(len(quarters_between(B, turned(B, SOUTH), 3)), 10)

    def test_less_than_a_quarter(self):
        self.assertEqual(quarters_between(EAST, B, 1), [EAST, B])
        # The tangent of half the turn, h, is 1/2 here.
        self.assertEqual(quarters_between(EAST, B, 2), [EAST, ((15, 17), (8, 17)), B])
        self.assertEqual(quarters_between(EAST, B, 3),
                         [EAST, ((35, 37), (12, 37)), A, B])

    def test_quarters_and_a_rest(self):
        self.assertEqual(quarters_between(EAST, ((-3, 5), (4, 5)), 1),
                         [EAST, NORTH, ((-3, 5), (4, 5))])
        self.assertEqual(quarters_between(EAST, ((3, 5), (-4, 5)), 1),
                         [EAST, NORTH, WEST, SOUTH, ((3, 5), (-4, 5))])

    def test_just_a_little_apart(self):
        little = unit(Fraction(1, BIG))
        for steps in (1, 2, 3):
            told = quarters_between(EAST, little, steps)
            self.assertEqual(len(told), steps + 1)
            self.assertEqual((told[0], told[-1]), (EAST, little))
            told = quarters_between(little, EAST, steps)
            self.assertEqual(len(told), 4 * steps + 1)
            self.assertEqual((told[0], told[-1]), (little, EAST))

    def test_about_a_quarter(self):
        for steps in (1, 2, 3):
            below, above = unit(Fraction(BIG, BIG + 1)), unit(Fraction(BIG + 1, BIG))
            self.assertEqual(len(quarters_between(EAST, below, steps)), steps + 1)
            self.assertEqual(len(quarters_between(EAST, NORTH, steps)), steps + 1)
            self.assertEqual(len(quarters_between(EAST, above, steps)), 2 * steps + 1)

    def test_all_pairs(self):
        for one, other in PAIRS:
            for steps in (1, 2, 3):
                asked = own_quarters(pair(one), pair(other), steps)
                self.assert_units(quarters_between(one, other, steps), asked)

    def test_both_ends_are_told_and_each_goes_on_to_the_left(self):
        for one, other in PLAIN_PAIRS:
            for steps in (1, 2, 3):
                told = quarters_between(one, other, steps)
                self.assertEqual((told[0], told[-1]), (one, other))
                turns = [turn_between(pair(one), pair(each)) for each in told]
                self.assertEqual(turns, sorted(set(turns)))


class UnitsBetween(Kinds):
    def test_a_quarter(self):
        self.assertEqual(units_between(EAST, NORTH, 1), [EAST, NORTH])
        self.assertEqual(units_between(EAST, NORTH, 2), [EAST, A, B, NORTH])
        self.assertEqual(units_between(EAST, NORTH, 3), [EAST, D, A, B, C, NORTH])

    def test_half_a_turn(self):
        self.assertEqual(units_between(NORTH, SOUTH, 1), [NORTH, WEST, SOUTH])
        self.assertEqual(units_between(NORTH, SOUTH, 2),
                         [NORTH, ((-3, 5), (4, 5)), ((-4, 5), (3, 5)), WEST,
                          ((-4, 5), (-3, 5)), ((-3, 5), (-4, 5)), SOUTH])

    def test_three_quarters(self):
        self.assertEqual(units_between(EAST, SOUTH, 1), [EAST, NORTH, WEST, SOUTH])
        self.assertEqual(len(units_between(EAST, SOUTH, 2)), 10)
        self.assertEqual(len(units_between(EAST, SOUTH, 3)), 16)

    def test_quarters_and_a_rest_from_both_ends(self):
        other = ((-3, 5), (4, 5))
        self.assertEqual(units_between(EAST, other, 1), [EAST, A, NORTH, other])

    def test_all_pairs(self):
        for one, other in PAIRS:
            for steps in (1, 2, 3):
                asked = own_units(pair(one), pair(other), steps)
                self.assert_units(units_between(one, other, steps), asked)

    def test_each_once_and_by_their_turn(self):
        for one, other in PLAIN_PAIRS:
            for steps in (1, 2, 3):
                told = units_between(one, other, steps)
                self.assertEqual((told[0], told[-1]), (one, other))
                turns = [turn_between(pair(one), pair(each)) for each in told]
                self.assertEqual(turns, sorted(set(turns)))

    def test_the_same_from_either_end(self):
        for one, other in PLAIN_PAIRS:
            for steps in (1, 2, 3):
                back = units_between(mirrored(other), mirrored(one), steps)
                self.assertEqual([mirrored(each) for each in reversed(back)],
                                 units_between(one, other, steps))

    def test_neighbours_are_no_more_than_a_quarter_apart(self):
        for one, other in PLAIN_PAIRS:
            for steps in (1, 2, 3):
                told = units_between(one, other, steps)
                for each, behind in zip(told, told[1:]):
                    quarters, rest = turn_between(pair(each), pair(behind))
                    self.assertLessEqual((quarters, rest), (1, 0))


class LeastDot(Kinds):
    def test_of_two(self):
        self.assertEqual(least_dot([EAST, NORTH]), (0, 1))
        self.assertEqual(least_dot([EAST, EAST]), (1, 1))
        self.assertEqual(least_dot([EAST, WEST]), (-1, 1))
        self.assertEqual(least_dot([B, A]), (24, 25))

    def test_wherever_it_is(self):
        self.assertEqual(least_dot([EAST, NORTH, NORTH, NORTH]), (0, 1))
        self.assertEqual(least_dot([EAST, A, NORTH, NORTH]), (3, 5))
        self.assertEqual(least_dot([NORTH, NORTH, C, EAST]), (5, 13))
        self.assertEqual(least_dot([NORTH, B, EAST, WEST]), (-1, 1))

    def test_only_neighbours_count(self):
        self.assertEqual(least_dot([EAST, A, EAST]), (4, 5))
        self.assertEqual(least_dot([EAST, B, NORTH, ((-4, 5), (3, 5)), WEST]), (3, 5))
        self.assertEqual(least_dot([EAST, NORTH, WEST, SOUTH]), (0, 1))

    def test_it_is_the_least_by_size(self):
        # 12/13 is above 4/5, though not where tuples are compared as Python has them.
        self.assertEqual(least_dot([D, EAST, A]), (4, 5))
        self.assertEqual(least_dot([A, EAST, D]), (4, 5))

    def test_all(self):
        for first in range(len(UNITS)):
            for many in range(2, len(UNITS) - first + 1):
                units = UNITS[first:first + many]
                pairs = [pair(each) for each in units]
                asked = min(a * c + b * d for (a, b), (c, d) in zip(pairs, pairs[1:]))
                self.assert_is_fraction(least_dot(units), asked)


class TipOf(Kinds):
    def test_plain_ones(self):
        self.assertEqual(tip_of(EAST, NORTH), whole(1, 1))
        self.assertEqual(tip_of(EAST, B), point(1, "1/2"))
        self.assertEqual(tip_of(B, EAST), point(1, "1/2"))
        self.assertEqual(tip_of(A, B), point("5/7", "5/7"))

    def test_of_alike_units_it_is_that_one(self):
        for one in UNITS:
            self.assert_vector(tip_of(one, one))
            self.assertEqual(tip_of(one, one), one)

    def test_nearly_half_a_turn(self):
        self.assertEqual(tip_of(EAST, unit(99)), whole(1, 99))
        self.assertEqual(tip_of(EAST, unit(-BIGGER)), whole(1, -BIGGER))

    def test_there_the_lines_meet(self):
        for one, other in PAIRS:
            (a, b), (c, d) = pair(one), pair(other)
            if a * c + b * d != -1:
                told = tip_of(one, other)
                self.assert_vector(told)
                x, y = pair(told)
                self.assertEqual((a * x + b * y, c * x + d * y), (1, 1))


class Own(Kinds):
    def test_changing_a_told_list_changes_nothing_else(self):
        for deed in (quarters_between, units_between):
            first = deed(EAST, SOUTH, 2)
            kept = list(first)
            first.append(None)
            first[0] = "a"
            second = deed(EAST, SOUTH, 2)
            self.assertIsNot(first, second)
            self.assertEqual(second, kept)
            second.clear()
            self.assertEqual(deed(EAST, SOUTH, 2), kept)

    def test_what_is_handed_in_stays_as_it_was(self):
        units = [EAST, A, NORTH, WEST]
        kept = list(units)
        least_dot(units)
        self.assertEqual(units, kept)

    def test_a_list_that_is_handed_in_is_not_kept(self):
        units = [EAST, A, B]
        self.assertEqual(least_dot(units), (4, 5))
        units[1] = NORTH
        self.assertEqual(least_dot(units), (0, 1))

    def test_what_was_told_may_be_handed_in_again(self):
        one, other = EAST, turned(B, C)
        for _ in range(6):
            told = units_between(one, other, 3)
            self.assert_units(told, own_units(pair(one), pair(other), 3))
            self.assert_fraction(least_dot(told))
            one, other = told[1], turned(told[2], told[-2])

"""Promises [2] and [17]: desk.py."""

from sidecut.blocks import blocks, most_off
from sidecut.cuts import cut_bounds
from sidecut.desk import answers
from sidecut.errors import BadNumber, BadPath, BadSheet, SideError
from sidecut.leads import led
from sidecut.near import is_near
from sidecut.patches import size_of
from sidecut.paths import corners, is_closed
from sidecut.rounds import rounds
from sidecut.texts import path_from, path_text
from sidecut.ways import left_out, ways
from tests.kinds import PATHS, Kinds, point, some_paths

SQUARE = "path from 0 0 side 4 0 side 4 4 side 0 4 side 0 0"
FLAT = "path from 0 0 side 4 0"
CUTTER = "cutter 1 1"
HEAD = [SQUARE, CUTTER]


def text_of(one):
    """A fraction's text."""
    return f"{one[0]}" if one[1] == 1 else f"{one[0]}/{one[1]}"


def at_text(at):
    return text_of(at[0]) + " " + text_of(at[1])


class Desk(Kinds):
    def assert_answers(self, rows, asked):
        told = answers("\n".join(rows))
        self.assertIs(type(told), list)
        for each in told:
            self.assertIs(type(each), str)
        self.assertEqual(told, asked)

    def assert_refused(self, rows, number):
        text = rows if isinstance(rows, str) else "\n".join(rows)
        with self.assertRaises(BadSheet, msg=repr(text[:200])) as held:
            answers(text)
        self.assertIs(type(held.exception), BadSheet)
        self.assertIsInstance(held.exception, SideError)
        self.assertIsInstance(held.exception, ValueError)
        self.assertNotIsInstance(held.exception, (BadNumber, BadPath))
        self.assert_number(held.exception.row)
        self.assertEqual(held.exception.row, number, repr(text[:200]))

    def assert_wrong(self, row, ahead=HEAD):
        """Behind good rows that row is refused."""
        self.assert_refused(ahead + [row], len(ahead))
        self.assert_refused(["", *ahead, "", row, "nothing", "corners"], len(ahead) + 2)

    def assert_right(self, row, ahead=HEAD):
        self.assertIs(type(answers("\n".join(ahead + [row]))), list)


class Answers(Desk):
    def test_no_asks(self):
        self.assert_answers([""], [])
        self.assert_answers(["", "", ""], [])
        self.assert_answers(HEAD, [])

    def test_way(self):
        self.assert_answers([*HEAD, "way left", "way right"],
                            ["from 1 1 side 3 1 side 3 3 side 1 3 side 1 1",
                             "from 0 -1 side 5 -1 side 5 5 side -1 5 side -1 -1 side 0 -1"])
        self.assert_answers([SQUARE, "cutter 2 1", "way left"], ["-"])
        self.assert_answers(["path from 0 0 side 10 0 side 10 5 side 5 5 side 5 -5", CUTTER, "way right"],
                            ["from 0 -1 side 4 -1 side 4 -5\nfrom 6 -1 side 11 -1 side 11 6 side 4 6 side 4 1"])

    def test_left(self):
        self.assert_answers([*HEAD, "left left", "left right"],
                            ["0 0 1/4 6; 0 3/4 1 2; 1 0 1/4 0; 1 3/4 1 4; 2 0 1/4 2; 2 3/4 1 6; 3 0 1/4 4; 3 3/4 1 0",
                             "-"])

    def test_near(self):
        self.assert_answers([SQUARE, "near 2 2 2", "near 2 2 1999/999", "near 0 0 0", "near 0 0 1/9", "near -1 -1 7/5",
                             "near -1 -1 3/2"], ["no", "yes", "no", "yes", "no", "yes"])

    def test_closed(self):
        self.assert_answers([SQUARE, "closed", FLAT, "closed"], ["yes", "no"])

    def test_corners(self):
        self.assert_answers([SQUARE, "corners", FLAT, "corners", "path from 0 0 side 4 0 side 8 0 side 8 -3 side 8 5",
                             "corners"], ["0 left; 1 left; 2 left; 3 left", "-", "1 straight; 2 right; 3 back"])

    def test_off(self):
        self.assert_answers([*HEAD, "off", "cutter 3 2", "off", FLAT, "off"], ["2", "10/3", "3"])

    def test_size(self):
        self.assert_answers([*HEAD, "size", FLAT, "size", "cutter 1/2 1", "size"], ["32", "12", "5"])

    def test_cut(self):
        self.assert_answers([FLAT, CUTTER, "cut left", SQUARE, "cut left", "cutter 2 1", "cut left"],
                            ["10 12", "14 16", "0 0"])

    def test_lead(self):
        self.assert_answers([*HEAD, "lead left 1", "lead right 3/2", FLAT, "lead left 1/2", "cutter 50 3", SQUARE,
                             "lead left 1"],
                            ["none none", "in -3/2 -1 out 3/2 -1", "in -1/2 1 out 9/2 1", "-"])
        self.assert_answers(["path from 0 0 side 10 0 side 10 5 side 5 5 side 5 -5", CUTTER, "lead left 1",
                             "lead right 1/9"],
                            ["in -1 1 none\nnone out 6 -6\nnone none", "in -1/9 -1 out 4 -46/9\nnone none"])

    def test_rounds(self):
        self.assert_answers([*HEAD, "rounds left 1/2 4", "rounds right 20 1", "rounds right 1/3 2"],
                            ["5/2 0; 2 0; 3/2 1; 1 1", "1 1", "4/3 1; 1 1"])

    def test_what_holds(self):
        self.assert_answers([CUTTER, FLAT, "size", "off", "cutter 2 1", "size", "", SQUARE, "size",
                             "cutter 1 1", "size"],
                            ["12", "1", "32", "64", "32"])

    def test_rows_without_signs_are_passed_over(self):
        self.assert_answers(["", SQUARE, "", "", "closed", ""], ["yes"])

    def test_without_a_cutter(self):
        self.assert_answers([SQUARE, "closed", "corners", "near 0 0 1"],
                            ["yes", "0 left; 1 left; 2 left; 3 left", "yes"])

    def test_as_the_functions_tell(self):
        for path in [*PATHS.values(), *some_paths(81, 6)]:
            for far, steps in (((1, 1), 1), ((5, 2), 2)):
                head = ["path " + path_text(path), f"cutter {text_of(far)} {steps}"]
                rows, asked = [], []
                for hand in ("left", "right"):
                    told = ways(path, hand, far, steps)
                    rows += [f"way {hand}", f"left {hand}", f"cut {hand}", f"lead {hand} 2", f"rounds {hand} 3/2 2"]
                    asked.append("\n".join(path_text(way) for way in told) or "-")
                    asked.append("; ".join(f"{number} {text_of(low)} {text_of(high)} {bar}" for number, low, high, bar
                                           in left_out(path, hand, far, steps)) or "-")
                    asked.append(" ".join(text_of(each) for each in cut_bounds(told, far, steps)))
                    lines = []
                    for into, _, out in led(path, hand, far, steps, (2, 1)):
                        lines.append((f"in {at_text(into[0])}" if into else "none") + " "
                                     + (f"out {at_text(out[1][0][1])}" if out else "none"))
                    asked.append("\n".join(lines) or "-")
                    asked.append("; ".join(f"{text_of(by)} {len(found)}" for by, found
                                           in rounds(path, hand, far, (3, 2), 2, steps)))
                rows += ["off", "size", "closed", "corners", "near 1/2 -3 2"]
                asked += [text_of(most_off(path, far, steps)), text_of(size_of(blocks(path, far, steps))),
                          "yes" if is_closed(path) else "no",
                          "; ".join(f"{number} {word}" for number, word in corners(path)) or "-",
                          "yes" if is_near(path, point("1/2", -3), (2, 1)) else "no"]
                self.assert_answers(head + rows, asked)


class Bounds(Desk):
    def test_sixty_rows(self):
        rows = [SQUARE] + ["closed"] * 59
        self.assert_answers(rows, ["yes"] * 59)
        self.assert_refused(rows + ["closed"], 60)
        self.assert_refused(rows + ["nothing"], 60)
        self.assert_refused(rows + [""], 60)
        self.assert_refused([""] * 61, 60)
        self.assert_answers([""] * 60, [])
        self.assert_refused([""] * 500 + ["x"], 60)
        self.assert_refused(rows[:-1] + ["x", "closed"], 59)

    def test_two_thousand_signs(self):
        # What is so long isn't so written either: the longest right rows have some hundred signs.
        for many in (2000, 2001, 5000):
            for sign in (" ", "x", "\t", "0"):
                self.assert_wrong(sign * many)
        self.assert_wrong("path from 0 0" + " side 1 0 side 0 0" * 110)
        self.assert_wrong("near 0 0 1" + " " * 1990)
        self.assert_wrong("near 0 0 1" + " " * 1991)

    def test_the_longest_right_rows(self):
        there = " arc right -9996/65 -9999/65 -9993/65 -9999/65"
        back = " arc right -9996/65 -9999/65 -9999/65 -9999/65"
        self.assert_answers(["path from -9999/65 -9999/65" + (there + back) * 6, "closed"], ["yes"])
        self.assert_answers([SQUARE, "near -9998/999 -9998/999 9998/999"], ["no"])

    def test_far(self):
        for far in ("50", "1/999", "49/999", "9999/998", "9999/200", "1", "49"):
            self.assert_right(f"cutter {far} 1")
        for far in ("0", "-1", "51", "50001/1000", "101/2", "1/1000", "10000/999", "9999/199", "10001/1000", "-1/2",
                    "2/4", "01", "1/1", "", "x", "+1", "1.5"):
            self.assert_wrong(f"cutter {far} 1")

    def test_steps(self):
        for steps in ("1", "2", "3"):
            self.assert_right(f"cutter 1 {steps}")
        for steps in ("0", "4", "-1", "01", "1/2", "", "x", "10", "3/1", "33", "12"):
            self.assert_wrong(f"cutter 1 {steps}")

    def test_numbers_of_paths(self):
        for row in ("path from 9999 -9999 side 9998 -9999", "path from 1/65 0 side 0 0", "path from 9999/65 0 side 0 0",
                    "path from 9999 0 arc left 9998 0 9997 0"):
            self.assert_right(row)
        for row in ("path from 10000 0 side 9999 0", "path from 9999 0 side 10000 0", "path from 0 -9999 side 0 -10000",
                    "path from 1/66 0 side 0 0", "path from 0 0 side 0 1/66", "path from 10000/63 0 side 0 0",
                    "path from 9999 0 arc left 10000 0 10001 0", "path from 9999 1 arc left 10000 1 10000 2",
                    "path from 0 0 arc left 1/66 0 1/33 0", "path from 0 0 side 1/999 0",
                    "path from 9999 0 arc left 10000 0 9999 0"):
            self.assert_wrong(row)

    def test_the_middle_of_an_arc_is_bounded_too(self):
        self.assert_right("path from 9998 1 arc left 9999 1 9999 2")
        self.assert_wrong("path from 9999 1 arc left 10000 1 10000 2")
        # Both ends are within the bounds, the middle alone isn't.
        self.assert_right("path from 9998 -1 arc left 9998 0 9998 1")
        self.assert_wrong("path from 9995 -12 arc left 10000 0 9995 12")
        self.assert_wrong("path from 0 0 arc left 3/130 2/65 0 4/65")

    def test_twelve_pieces(self):
        for many in (1, 11, 12):
            self.assert_right("path from 0 0" + "".join(f" side {k + 1} 0" for k in range(many)))
        for many in (0, 13, 14, 40):
            self.assert_wrong("path from 0 0" + "".join(f" side {k + 1} 0" for k in range(many)))

    def test_long(self):
        for long in ("100", "1/999", "9999/100", "1", "199/2"):
            self.assert_right(f"lead left {long}")
        for long in ("0", "-1", "101", "201/2", "100001/1000", "1/1000", "10000/101", "9999/98", "", "x", "2/4"):
            self.assert_wrong(f"lead left {long}")

    def test_step_and_many(self):
        for step in ("20", "1/999", "9999/500", "39/2"):
            self.assert_right(f"rounds left {step} 1")
        for step in ("0", "-1", "21", "41/2", "1/1000", "10000/501", "9999/499", "", "x"):
            self.assert_wrong(f"rounds left {step} 1")
        for many in ("1", "2", "3", "4"):
            self.assert_right(f"rounds left 1 {many}")
        for many in ("0", "5", "-1", "1/2", "01", "", "x", "11", "34"):
            self.assert_wrong(f"rounds left 1 {many}")

    def test_near_at_the_bounds(self):
        self.assert_answers([SQUARE, "near 9999 0 9996", "near 9999 0 9995", "near -9999 0 9999", "near 0 9999 9996",
                             "near 0 -9999 9999", "near 0 -9999 9998", "near 2 2 9999", "near 2 2 9999/998",
                             "near -1/999 0 1/998", "near 0 -1/999 1/999", "near 0 0 1/999",
                             "near -9998/999 2 9997/998", "near 2 -9998/999 9998/999"],
                            ["yes", "no", "no", "yes", "no", "no", "yes", "yes", "yes", "no", "yes", "yes", "no"])

    def test_near_beyond_the_bounds(self):
        for number in ("10000", "1/1000", "10000/7", "2001/1000", "9999/1000", "10000/999", "9" * 60,
                       "1/" + "9" * 60, "9" * 61, "1/" + "9" * 61):
            for one in (number, "-" + number):
                for row in (f"near {one} 0 1", f"near 0 {one} 1", f"near 0 0 {one}"):
                    self.assert_wrong(row)
                    self.assert_wrong(row, [SQUARE])

    def test_near_by_less_than_nought(self):
        self.assert_answers([SQUARE, "near 0 0 0"], ["no"])
        for row in ("near 0 0 -1", "near 0 0 -1/2", "near 0 0 -1/999", "near 0 0 -9999", "near 0 0 -0", "near 0 -0 1"):
            self.assert_wrong(row)

    def test_near_by_itself_has_no_bounds(self):
        path = path_from(SQUARE.removeprefix("path "))
        much = 10 ** 60
        self.assertIs(is_near(path, point(much, 0), (much - 3, 1)), True)
        self.assertIs(is_near(path, point(much, 0), (much - 4, 1)), False)
        self.assertIs(is_near(path, ((-1, much), (0, 1)), (1, much - 1)), True)
        self.assertIs(is_near(path, ((-1, much), (0, 1)), (1, much)), False)


class Wrong(Desk):
    def test_rows_that_are_not_so_written(self):
        for row in (" ", "  ", "x", "Way left", "way", "way ", "way  left", " way left", "way left ", "way up",
                    "way LEFT",
                    "way left right", "ways left", "left", "left up", "left left left", "near", "near 0", "near 0 0",
                    "near 0 0 1 1", "near 0 0  1", "near x 0 1", "near 0 0 x", "closed ", "closed 1",
                    "closed  ", "corners 0",
                    "Corners", "off 1", "off ", "size 1", " size", "cut", "cut x", "cut left 1", "lead left", "lead 1",
                    "lead 1 left", "lead left 1 1", "lead left x", "rounds left", "rounds left 1", "rounds left 1 1 1",
                    "rounds 1 1 left", "cutter", "cutter 1", "cutter 1 1 1", "cutter 1  1", "Cutter 1 1",
                    "path", "path ",
                    "path from", "path  from 0 0 side 4 0", "path from 0 0 side 4 0 ", "path from 0 0 side 1 1",
                    "from 0 0 side 4 0", "path path from 0 0 side 4 0", "-", "way left; way right", "stop", "~", "0"):
            self.assert_wrong(row)

    def test_tabs(self):
        for row in ("\t", "way\tleft", "way left\t", "\tway left", "closed\t", "cutter\t1 1", "cutter 1\t1",
                    "path\tfrom 0 0 side 4 0", "path from 0 0\tside 4 0", "path from 0 0 side 4 0\t",
                    "near 0 0\t1", "\t\t"):
            self.assert_wrong(row)

    def test_an_ask_ahead_of_its_path(self):
        for row in ("way left", "left left", "near 0 0 1", "closed", "corners", "off", "size", "cut left",
                    "lead left 1",
                    "rounds left 1 1"):
            self.assert_refused([row], 0)
            self.assert_refused([CUTTER, row], 1)
            self.assert_refused([CUTTER, "", row, SQUARE], 2)

    def test_an_ask_ahead_of_its_cutter(self):
        for row in ("way left", "left left", "off", "size", "cut left", "lead left 1", "rounds left 1 1"):
            self.assert_refused([SQUARE, row], 1)
            self.assert_refused([SQUARE, "closed", row, CUTTER], 2)
        for row in ("near 0 0 1", "closed", "corners"):
            self.assert_right(row, [SQUARE])

    def test_of_two_wrong_rows_the_first_one(self):
        self.assert_refused(["x", "y"], 0)
        self.assert_refused([*HEAD, "way left", "way up", "x"], 3)
        self.assert_refused([*HEAD, "size", "cutter 51 1", "near 0 0 -1"], 3)
        self.assert_refused([*HEAD, "", "", "off 1", "x" * 2001], 4)
        self.assert_refused([*HEAD, "x" * 2001, "off 1"], 2)
        self.assert_refused(["size", SQUARE, CUTTER, "x"], 0)
        self.assert_refused(["closed", "x"], 0)

    def test_a_wrong_path_or_cutter_holds_not(self):
        self.assert_refused([CUTTER, "path from 0 0 side 1 1", "size"], 1)
        self.assert_refused([SQUARE, "cutter 0 1", "size"], 1)

    def test_a_refusal_changes_nothing(self):
        self.assert_refused([*HEAD, "x"], 2)
        self.assert_refused(["size"], 0)
        self.assert_refused([SQUARE, "size"], 1)
        self.assert_answers([*HEAD, "size"], ["32"])

    def test_told_lists_are_the_askers_own(self):
        text = "\n".join([*HEAD, "size", "off"])
        first = answers(text)
        first.append("x")
        second = answers(text)
        self.assertIsNot(first, second)
        self.assertEqual(second, ["32", "2"])
        self.assertIsNot(answers(""), answers(""))

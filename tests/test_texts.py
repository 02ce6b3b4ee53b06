"""Promises [2] and [16]: texts.py."""

import random
import sys
from fractions import Fraction

from sidecut.errors import BadNumber, BadPath, BadSheet, SideError
from sidecut.paths import is_path, moved
from sidecut.texts import fraction_from, fraction_text, path_from, path_text
from sidecut.ways import ways
from tests.kinds import BIG, BIGGER, FRACTIONS, PATHS, SQUARE, Kinds, point, ratio, some_paths, whole

SIXTY = "1234567890" * 6
SQUARE_TEXT = "from 0 0 side 4 0 side 4 4 side 0 4 side 0 0"
ARC_TEXT = "from 4 0 arc left 0 0 0 4"
SIGNS = "".join(chr(k) for k in range(32, 127)) + "\n"


def plain_text(number):
    """A whole number in figures, by hand: Python's own writing stops at some thousand of them."""
    figures, rest = [], abs(number)
    while rest:
        rest, last = divmod(rest, 10)
        figures.append("0123456789"[last])
    return ("-" if number < 0 else "") + ("".join(figures[::-1]) or "0")


class Texts(Kinds):
    def assert_text(self, thing, asked):
        self.assertIs(type(thing), str)
        self.assertEqual(thing, asked)

    def assert_refused(self, ask, refusal, text):
        others = {BadNumber, BadPath, BadSheet} - {refusal}
        with self.assertRaises(refusal, msg=repr(text)) as held:
            ask(text)
        self.assertIs(type(held.exception), refusal)
        self.assertIsInstance(held.exception, SideError)
        self.assertIsInstance(held.exception, ValueError)
        for other in others:
            self.assertNotIsInstance(held.exception, other)


class FractionTexts(Texts):
    def test_plain_ones(self):
        for one, asked in (((0, 1), "0"), ((7, 1), "7"), ((-7, 1), "-7"), ((1, 2), "1/2"), ((-1, 2), "-1/2"),
                           ((10, 1), "10"), ((100, 207), "100/207"), ((-9999, 998), "-9999/998")):
            self.assert_text(fraction_text(one), asked)

    def test_all(self):
        for n, d in FRACTIONS:
            self.assert_text(fraction_text((n, d)), f"{n}" if d == 1 else f"{n}/{d}")

    def test_of_any_size(self):
        for figures in (59, 60, 61, 119, 120, 121, 639, 641, 4299, 4300, 4301, 9000):
            for number in (10 ** figures, 10 ** figures - 1, 10 ** figures + 1, 3 ** (2 * figures),
                           -(10 ** figures), 10 ** figures + 10 ** (figures // 2)):
                self.assert_text(fraction_text((number, 1)), plain_text(number))
                one = ratio(Fraction(1, number))
                self.assert_text(fraction_text(one), f"{plain_text(one[0])}/{plain_text(one[1])}")

    def test_pythons_own_bound_stays_as_it_was(self):
        before = sys.get_int_max_str_digits()
        fraction_text((10 ** 5000, 7))
        self.assertEqual(sys.get_int_max_str_digits(), before)


class FractionFrom(Texts):
    def test_plain_ones(self):
        for text, asked in (("0", (0, 1)), ("7", (7, 1)), ("-7", (-7, 1)), ("1/2", (1, 2)), ("-1/2", (-1, 2)),
                            ("10", (10, 1)), ("1000/999", (1000, 999)), ("99999", (99999, 1)), ("1/1000", (1, 1000))):
            self.assert_fraction(fraction_from(text))
            self.assertEqual(fraction_from(text), asked)

    def test_sixty_figures(self):
        for text in (SIXTY, "-" + SIXTY, "1/" + SIXTY, "-1/" + SIXTY, SIXTY + "/" + SIXTY[:-1] + "1",
                     "-" + "9" * 60 + "/" + "1" + "0" * 59):
            self.assert_fraction(fraction_from(text))
            self.assert_text(fraction_text(fraction_from(text)), text)
        for text in (SIXTY + "1", "-" + SIXTY + "1", "1/" + SIXTY + "1", SIXTY + "1/7", "9" * 61, "1" + "0" * 60,
                     "-1/1" + "0" * 60, "9" * 5000, "1/" + "9" * 5000, "0" * 61):
            self.assert_refused(fraction_from, BadNumber, text)

    def test_wrong_ones(self):
        for text in ("", " ", "-", "+", "/", "-0", "+1", "00", "01", "-01", "007", "1/", "/2", "-/2", "1/0", "0/1",
                     "0/2", "-0/1", "1/1", "7/1", "-7/1", "2/4", "4/2", "-2/4", "6/3", "1/-2", "-1/-2", "1/+2", "1/02",
                     "01/2", "1/2/3", "1//2", "1 /2", "1/ 2", "1 2", " 1", "1 ", "  1", "1\n", "\n1", "\n", "1/2\n",
                     "--1", "- 1", "1-", "1.0", ".5", "1e3", "0x1", "1_0", "one", "None", "1,0", "(1, 2)", "~", "!1"):
            self.assert_refused(fraction_from, BadNumber, text)

    def test_each_sign_put_anywhere(self):
        for sign in SIGNS:
            for text in ("12/35", "-7", "0", SIXTY):
                for at in range(len(text) + 1):
                    self.look_at(text[:at] + sign + text[at:])
                    self.look_at(text[:at] + sign + text[at + 1:])

    def look_at(self, text):
        """Refused, or read and written to the same text, as a reckoning of its own has it."""
        top, slash, bottom = text.partition("/")
        figures = "0123456789"
        bare = top[1:] if top[:1] == "-" else top
        is_right = bare != "" and all(sign in figures for sign in bare) and len(bare) <= 60
        is_right = is_right and (bare == "0" or bare[0] != "0") and top != "-0"
        if is_right and slash:
            is_right = bottom != "" and all(sign in figures for sign in bottom) and len(bottom) <= 60
            is_right = is_right and bottom[0] != "0" and bottom != "1"
            is_right = is_right and ratio(Fraction(int(top), int(bottom))) == (int(top), int(bottom))
        if is_right:
            self.assertEqual(fraction_from(text), (int(top), int(bottom or "1")))
            self.assert_text(fraction_text(fraction_from(text)), text)
        else:
            self.assert_refused(fraction_from, BadNumber, text)

    def test_some_texts(self):
        asker = random.Random(71)
        for _ in range(4000):
            self.look_at("".join(asker.choice("0123456789-/ 10") for _ in range(asker.randint(0, 6))))


class PathTexts(Texts):
    def test_plain_ones(self):
        self.assert_text(path_text(SQUARE), SQUARE_TEXT)
        self.assert_text(path_text(PATHS["quarter left"]), ARC_TEXT)
        self.assert_text(path_text(PATHS["quarter right"]), "from 0 4 arc right 0 0 4 0")
        self.assert_text(path_text(PATHS["one side"]), "from 1/2 -1/3 side 7/2 11/3")
        self.assert_text(path_text(PATHS["winding"]),
                         "from -7/2 1 side -1/2 5 arc right -1/2 3 11/10 9/5 side 5 9/5 arc left 5 14/5 6 14/5 "
                         "side 6 0 arc right 15/2 0 9 0 side 9 -13/5 side -3/65 -13/5")

    def test_there_and_back(self):
        for path in [*PATHS.values(), *some_paths(72, 20)]:
            text = path_text(path)
            self.assertIs(type(text), str)
            self.assert_path(path_from(text))
            self.assertEqual(path_from(text), path)

    def test_ways(self):
        for path in PATHS.values():
            for way in ways(path, "left", (1, 1), 1):
                self.assertEqual(path_from(path_text(way)), way)

    def test_of_any_size(self):
        path = moved(SQUARE, (ratio(Fraction(BIGGER, BIG)), (10 ** 5000, 1)))
        text = path_text(path)
        words = text.split(" ")
        self.assertEqual(words[:2], ["from", f"{plain_text(path[0][0][0])}/{plain_text(path[0][0][1])}"])
        self.assertEqual(words[2], "1" + "0" * 5000)
        self.assertEqual(len(words), 15)


class PathFrom(Texts):
    def assert_wrong(self, text):
        self.assert_refused(path_from, BadPath, text)

    def test_sixty_figures(self):
        text = f"from {SIXTY} 0 side {SIXTY} 1/{SIXTY}"
        self.assertEqual(path_from(text), (((int(SIXTY), 1), (0, 1)), (("side", ((int(SIXTY), 1), (1, int(SIXTY)))),)))
        self.assert_text(path_text(path_from(text)), text)
        self.assert_wrong(f"from {SIXTY}1 0 side {SIXTY}1 1")
        self.assert_wrong(f"from 0 0 side 0 1/{SIXTY}1")

    def test_bounds_are_not_looked_at(self):
        text = "from 10000 0" + " side 10001 0 side 10000 0" * 10 + " side 10000 1/66"
        self.assertEqual(len(path_from(text)[1]), 21)
        self.assert_text(path_text(path_from(text)), text)

    def test_words_left_out_twice_and_exchanged(self):
        for text in (SQUARE_TEXT, ARC_TEXT, path_text(PATHS["winding"]), path_text(PATHS["one side"])):
            words = text.split(" ")
            for at in range(len(words)):
                self.look_at(words[:at] + words[at + 1:])
                self.look_at(words[:at] + [words[at]] + words[at:])
                for other in range(at):
                    found = list(words)
                    found[at], found[other] = found[other], found[at]
                    self.look_at(found)
                for word in ("", "0", "1/2", "side", "arc", "from", "left", "right", "x", "-0", "SIDE", "\n", "1/1"):
                    self.look_at(words[:at] + [word] + words[at + 1:])
                    self.look_at(words[:at] + [word] + words[at:])

    def look_at(self, words):
        """Refused, or read and written to the same text, as a reckoning of its own has it."""
        text = " ".join(words)
        try:
            asked = self.own_path(text.split(" "))
        except (ValueError, IndexError, AssertionError):
            asked = None
        if asked is None or not is_path(asked):
            self.assert_wrong(text)
        else:
            self.assertEqual(path_from(text), asked)
            self.assert_text(path_text(path_from(text)), text)

    def own_path(self, words):
        def take():
            return words.pop(0)

        def take_point():
            return (fraction_from(take()), fraction_from(take()))

        assert take() == "from"
        start, pieces = take_point(), []
        while words:
            word = take()
            assert word in ("side", "arc")
            if word == "side":
                pieces.append(("side", take_point()))
            else:
                turn = take()
                assert turn in ("left", "right")
                pieces.append(("arc", take_point(), take_point(), turn))
        return (start, tuple(pieces))

    def test_no_path_by_its_pieces(self):
        for text in ("from 0 0", "from 0 0 side 0 0", "from 0 0 side 1 1", "from 0 0 side 1 2",
                     "from 0 0 side 3 4 side 3 4",
                     "from 4 0 arc left 0 0 0 5", "from 4 0 arc left 0 0 4 0", "from 4 0 arc left 1 1 0 4",
                     "from 0 0 arc left 0 0 0 0", "from 4 0 arc up 0 0 0 4", "from 4 0 arc  0 0 0 4",
                     "from 4 0 arc 0 0 0 4", "from 4 0 arc left 0 0", "from 4 0 arc left", "from 4 0 arc",
                     "from 4 0 side", "from 4 0 side 1", "from 4", "from"):
            self.assert_wrong(text)

    def test_blanks_and_other_signs(self):
        for text in ("", " ", "\n", "~", " " + SQUARE_TEXT, SQUARE_TEXT + " ", SQUARE_TEXT + "\n", "\n" + SQUARE_TEXT,
                     SQUARE_TEXT.replace(" ", "  ", 1), SQUARE_TEXT.replace(" ", "\n"), SQUARE_TEXT + "  ",
                     SQUARE_TEXT.replace(" ", "\n", 1), SQUARE_TEXT + "\n" + SQUARE_TEXT,
                     SQUARE_TEXT + " " + SQUARE_TEXT,
                     SQUARE_TEXT.upper(), SQUARE_TEXT.replace("0", "-0"), SQUARE_TEXT.replace("4", "8/2"),
                     SQUARE_TEXT.replace("4", "04"), SQUARE_TEXT.replace("4", "4/1"), SQUARE_TEXT.replace("from ", ""),
                     "path " + SQUARE_TEXT, SQUARE_TEXT.replace("from", "From"), SQUARE_TEXT.replace(" ", "")):
            self.assert_wrong(text)

    def test_each_sign_put_anywhere(self):
        for sign in SIGNS:
            for at in range(len(ARC_TEXT) + 1):
                self.look_at((ARC_TEXT[:at] + sign + ARC_TEXT[at:]).split(" "))

    def test_a_refusal_changes_nothing(self):
        self.assert_wrong("from 0 0 side 1 1")
        self.assertEqual(path_from(ARC_TEXT), PATHS["quarter left"])
        self.assert_refused(fraction_from, BadNumber, "-0")
        self.assertEqual(fraction_from("0"), (0, 1))
        self.assertEqual(point(0, 0), whole(0, 0))

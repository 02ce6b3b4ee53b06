"""Texts of fractions and paths, written and read."""

from sidecut.errors import BadNumber, BadPath
from sidecut.fractions import is_fraction
from sidecut.paths import is_path, is_side

MOST_FIGURES = 60
# Python itself writes no number of more than some thousand figures, so longer ones are written by parts.
PART_FIGURES = 60
PART = 10 ** 60


def number_text(number):
    """The number in plain figures, however many."""
    rest, parts = abs(number), []
    while rest >= PART:
        rest, part = divmod(rest, PART)
        parts.append(str(part).zfill(PART_FIGURES))
    parts.append(str(rest))
    return ("-" if number < 0 else "") + "".join(parts[::-1])


def fraction_text(one):
    """The text of a fraction."""
    n, d = one
    return number_text(n) if d == 1 else number_text(n) + "/" + number_text(d)


def point_text(point):
    """The text of a point."""
    return fraction_text(point[0]) + " " + fraction_text(point[1])


def is_plain(text):
    """Whether text is plain figures, not too many, without a nought ahead but of 0 itself."""
    if not text.isascii() or not text.isdigit() or len(text) > MOST_FIGURES:
        return False
    return text == "0" or not text.startswith("0")


def fraction_from(text):
    """The fraction of which that is the text; refused with BadNumber."""
    top, slash, bottom = text.removeprefix("-").partition("/")
    if not is_plain(top) or (slash == "/" and not is_plain(bottom)):
        raise BadNumber("no fraction is so written")
    n = -int(top) if text.startswith("-") else int(top)
    found = (n, int(bottom) if slash == "/" else 1)
    # Written back it shows what else is no fraction's text: -0, a second number of 1.
    if not is_fraction(found) or fraction_text(found) != text:
        raise BadNumber("no fraction is so written")
    return found


def piece_text(piece):
    """The text of a piece."""
    if is_side(piece):
        return "side " + point_text(piece[1])
    return "arc " + piece[3] + " " + point_text(piece[1]) + " " + point_text(piece[2])


def path_text(path):
    """The text of a path."""
    return " ".join(["from " + point_text(path[0])] + [piece_text(piece) for piece in path[1]])


def point_from(words):
    """The point that the words tell; refused with BadPath, or with BadNumber where one is no fraction's."""
    if len(words) != 2:
        raise BadPath("no point is so written")
    return (fraction_from(words[0]), fraction_from(words[1]))


def pieces_from(words):
    """The tuple of what the words tell in the form of pieces; refused like point_from."""
    pieces = []
    at = 0
    while at < len(words):
        if words[at] == "side":
            pieces.append(("side", point_from(words[at + 1:at + 3])))
            at += 3
        elif words[at] == "arc":
            # Where words are wanting a point is the first to be refused.
            middle, to = point_from(words[at + 2:at + 4]), point_from(words[at + 4:at + 6])
            pieces.append(("arc", middle, to, words[at + 1]))
            at += 6
        else:
            raise BadPath("no piece is so written")
    return tuple(pieces)


def path_from(text):
    """The path of which that is the text; refused with BadPath."""
    words = text.split(" ")
    try:
        path = (point_from(words[1:3]), pieces_from(words[3:]))
    except BadNumber:
        raise BadPath("a path's number isn't so written") from None
    # Whether each arc's turn is one, and whether each piece can begin where it does, is_path tells.
    if words[0] != "from" or not is_path(path):
        raise BadPath("no path is so written")
    return path

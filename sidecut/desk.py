"""A desk that answers the asks of a sheet, row by row."""

from sidecut.blocks import blocks, most_off
from sidecut.cuts import cut_bounds
from sidecut.errors import BadNumber, BadPath, BadSheet
from sidecut.fractions import compared
from sidecut.leads import led
from sidecut.near import is_near
from sidecut.patches import size_of
from sidecut.paths import corners, end_of, is_closed
from sidecut.rounds import rounds
from sidecut.texts import fraction_from, fraction_text, path_from, path_text, point_text
from sidecut.ways import left_out, ways

MOST_ROWS = 60
MOST_SIGNS = 2000
MOST_N = 9999
MOST_D = 999
MOST_D_IN_PATHS = 65
MOST_PIECES = 12


def is_bounded(one, most_d):
    """Whether a fraction's numbers are within the bounds."""
    return abs(one[0]) <= MOST_N and one[1] <= most_d


def read_fraction(word):
    """The fraction that a word tells, within the bounds, or None."""
    try:
        one = fraction_from(word)
    except BadNumber:
        return None
    return one if is_bounded(one, MOST_D) else None


def read_from_nought(word):
    """The fraction from 0 on that a word tells, or None."""
    one = read_fraction(word)
    return None if one is None or one[0] < 0 else one


def read_up_to(word, most):
    """The fraction above 0 and at most so great that a word tells, or None."""
    one = read_fraction(word)
    return None if one is None or one[0] <= 0 or compared(one, (most, 1)) > 0 else one


def read_far(word):
    """A half width, or None."""
    return read_up_to(word, 50)


def read_long(word):
    """A lead's length, or None."""
    return read_up_to(word, 100)


def read_step(word):
    """A step from round to round, or None."""
    return read_up_to(word, 20)


def read_steps(word):
    """A number of steps, or None."""
    return int(word) if word in ("1", "2", "3") else None


def read_many(word):
    """A number of rounds, or None."""
    return int(word) if word in ("1", "2", "3", "4") else None


def read_side(word):
    """One of both sides, or None."""
    return word if word in ("left", "right") else None


def points_in(path):
    """The list of all points that stand in a path."""
    found = [path[0]]
    for piece in path[1]:
        found.append(end_of(piece))
        if piece[0] == "arc":
            found.append(piece[1])
    return found


def read_path(text):
    """The path that a text tells, within the bounds, or None."""
    try:
        path = path_from(text)
    except BadPath:
        return None
    if len(path[1]) > MOST_PIECES:
        return None
    for x, y in points_in(path):
        if not is_bounded(x, MOST_D_IN_PATHS) or not is_bounded(y, MOST_D_IN_PATHS):
            return None
    return path


def yes_or_no(truth):
    """The word for whether."""
    return "yes" if truth else "no"


def or_dash(text):
    """The text, or a dash where it is empty."""
    return text if text != "" else "-"


def way_answer(path, cutter, values):
    """The ways' texts."""
    far, steps = cutter
    return or_dash("\n".join([path_text(way) for way in ways(path, values[0], far, steps)]))


def left_answer(path, cutter, values):
    """What the ways leave out."""
    far, steps = cutter
    rows = []
    for number, low, high, bar in left_out(path, values[0], far, steps):
        rows.append(f"{number} {fraction_text(low)} {fraction_text(high)} {bar}")
    return or_dash("; ".join(rows))


def near_answer(path, cutter, values):
    """Whether a point is near the path."""
    x, y, by = values
    return yes_or_no(is_near(path, (x, y), by))


def closed_answer(path, cutter, values):
    """Whether the path is closed."""
    return yes_or_no(is_closed(path))


def corners_answer(path, cutter, values):
    """The path's corners."""
    return or_dash("; ".join([f"{number} {word}" for number, word in corners(path)]))


def off_answer(path, cutter, values):
    """How far off a way may be at most."""
    far, steps = cutter
    return fraction_text(most_off(path, far, steps))


def size_answer(path, cutter, values):
    """How much the blocks cover."""
    far, steps = cutter
    return fraction_text(size_of(blocks(path, far, steps)))


def cut_answer(path, cutter, values):
    """Both bounds of what is cut along the ways."""
    far, steps = cutter
    least, most = cut_bounds(ways(path, values[0], far, steps), far, steps)
    return fraction_text(least) + " " + fraction_text(most)


def lead_row(into, out):
    """Where the lead into a way begins, and where that out of it ends."""
    first = "none" if into is None else "in " + point_text(into[0])
    last = "none" if out is None else "out " + point_text(end_of(out[1][0]))
    return first + " " + last


def lead_answer(path, cutter, values):
    """The leads of each way."""
    side, long = values
    far, steps = cutter
    return or_dash("\n".join([lead_row(into, out) for into, way, out in led(path, side, far, steps, long)]))


def rounds_answer(path, cutter, values):
    """How many ways each round has."""
    side, step, many = values
    far, steps = cutter
    rows = []
    for by, found in rounds(path, side, far, step, many, steps):
        rows.append(f"{fraction_text(by)} {len(found)}")
    return "; ".join(rows)


READERS = {
    "by": read_from_nought, "far": read_far, "fraction": read_fraction, "long": read_long, "many": read_many,
    "side": read_side, "step": read_step, "steps": read_steps,
}
FORMS = {
    "cutter": ("far", "steps"), "way": ("side",), "left": ("side",), "near": ("fraction", "fraction", "by"),
    "closed": (), "corners": (), "off": (), "size": (), "cut": ("side",), "lead": ("side", "long"),
    "rounds": ("side", "step", "many"),
}
ANSWERS = {
    "way": way_answer, "left": left_answer, "near": near_answer, "closed": closed_answer,
    "corners": corners_answer, "off": off_answer, "size": size_answer, "cut": cut_answer,
    "lead": lead_answer, "rounds": rounds_answer,
}
WITHOUT_CUTTER = ("near", "closed", "corners")


def read_values(row):
    """The list of what a row that is no path's tells behind its first word, or None where it's wrong."""
    first, *words = row.split(" ")
    if first not in FORMS or len(words) != len(FORMS[first]):
        return None
    values = []
    for kind, word in zip(FORMS[first], words):
        reader = READERS[kind]
        values.append(reader(word))
    return None if None in values else values


def read_asks(rows):
    """The list of tuples (ask, path, cutter, values); refused with BadSheet."""
    path, cutter, asks = None, None, []
    for number, row in enumerate(rows):
        if number >= MOST_ROWS or len(row) > MOST_SIGNS:
            raise BadSheet(number)
        first, blank, rest = row.partition(" ")
        if row == "":
            continue
        if first == "path":
            path = read_path(rest)
            if path is None:
                raise BadSheet(number)
            continue
        values = read_values(row)
        if values is None:
            raise BadSheet(number)
        if first == "cutter":
            cutter = values
        elif path is None or (cutter is None and first not in WITHOUT_CUTTER):
            raise BadSheet(number)
        else:
            asks.append((first, path, cutter, values))
    return asks


def answers(text):
    """The list with a text for each ask of a sheet; refused with BadSheet."""
    found = []
    # All rows are read ahead of the first answer: so a wrong sheet is soon refused.
    for ask, path, cutter, values in read_asks(text.split("\n")):
        answer = ANSWERS[ask]
        found.append(answer(path, cutter, values))
    return found

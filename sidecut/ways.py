"""Ways beside a path, and what stretches of its sides they leave out."""

from sidecut.blocks import blocks
from sidecut.fractions import compared, fraction, is_fraction, is_number
from sidecut.patches import rim
from sidecut.points import cross, dot, minus
from sidecut.shapes import overlap, parted, segment_of, shapes_of

NOUGHT = (0, 1)
ONE = (1, 1)
MARKS = {"left": "bl", "right": "br"}


def stretches(path, side, far, steps):
    """The list of (block, edge, begin, end): the rim on that side of the path, as the path goes."""
    rows = rim(blocks(path, far, steps), MARKS[side])
    if side == "right":
        return rows
    # A block's edges go round it to the left, so on the left of the path they go against it.
    return [(number, edge, end, begin) for number, edge, begin, end in rows]


def first_place(rows):
    """The place of the row with which a way begins, of rows (begin, end)."""
    ends = {end: True for begin, end in rows}
    for at, (begin, end) in enumerate(rows):
        if begin not in ends:
            return at
    return 0


def place_from(rows, point):
    """The place of the first row that begins at the point, or None."""
    for at, (begin, end) in enumerate(rows):
        if begin == point:
            return at
    return None


def chained(rows):
    """The rows (begin, end), each in one of a list of chains."""
    rest = list(rows)
    chains = []
    while rest:
        chain = [rest.pop(first_place(rest))]
        at = place_from(rest, chain[-1][1])
        while at is not None and chain[-1][1] != chain[0][0]:
            chain.append(rest.pop(at))
            at = place_from(rest, chain[-1][1])
        chains.append(chain)
    return chains


def goes_straight_on(ahead, behind):
    """Whether the row behind goes in the same direction as the one ahead."""
    one, other = minus(ahead[1], ahead[0]), minus(behind[1], behind[0])
    return cross(one, other)[0] == 0 and dot(one, other)[0] > 0


def way_along(chain):
    """The path of sides along a chain of rows (begin, end)."""
    ends = [chain[0][1]]
    for ahead, behind in zip(chain, chain[1:]):
        if goes_straight_on(ahead, behind):
            ends[-1] = behind[1]
        else:
            ends.append(behind[1])
    return (chain[0][0], tuple([("side", end) for end in ends]))


def ways(path, side, far, steps):
    """The list of the ways on that side of the path, paths of sides."""
    rows = [(begin, end) for number, edge, begin, end in stretches(path, side, far, steps)]
    return [way_along(chain) for chain in chained(rows)]


def strip_segment(strip, side):
    """The edge of a side's strip on that side, as the path goes."""
    right, right_end, left_end, left = strip[2]
    return segment_of(left, left_end) if side == "left" else segment_of(right, right_end)


def barred_part(shape, segment, side):
    """The part (low, high) of a strip's edge that a block bars, or None."""
    laid = overlap(shape, segment)
    # Along the path what lies beyond the strip's left edge is on the left, of the right one on the right.
    if laid is None or (laid[2] != "in" and laid[2] != side):
        return None
    return laid[:2]


def barred_rows(shapes, segment, side):
    """The rows (low, high, bar) of a strip's edge from its begin to its end, bar None where it's free."""
    rows = [(NOUGHT, ONE, None)]
    for bar, shape in enumerate(shapes):
        part = barred_part(shape, segment, side)
        if part is not None:
            rows = parted(rows, part[0], part[1], bar)
    return rows


def left_out(path, side, far, steps):
    """The list of (number, low, high, bar): the parts of sides that the ways leave out."""
    laid = blocks(path, far, steps)
    shapes = shapes_of(laid)
    found = []
    for word, number, outline, marks in laid:
        if word == "strip":
            segment = strip_segment((word, number, outline, marks), side)
            for low, high, bar in barred_rows(shapes, segment, side):
                if bar is not None:
                    found.append((number, fraction(low[0], low[1]), fraction(high[0], high[1]), bar))
    return found


def has_form(thing):
    """Whether thing is a list of tuples (number, low, high, bar), low below high."""
    if not isinstance(thing, list):
        return False
    for row in thing:
        if not isinstance(row, tuple) or len(row) != 4:
            return False
        number, low, high, bar = row
        if not is_number(number) or not is_number(bar) or not is_fraction(low) or not is_fraction(high):
            return False
        if compared(low, high) >= 0:
            return False
    return True


def are_barred(path, side, far, steps, rows):
    """Whether each of the rows (number, low, high, bar) is of a side that its bar bars there."""
    laid = blocks(path, far, steps)
    strips = {block[1]: block for block in laid if block[0] == "strip"}
    shapes = shapes_of(laid)
    for number, low, high, bar in rows:
        if number not in strips or bar < 0 or bar >= len(shapes):
            return False
        part = barred_part(shapes[bar], strip_segment(strips[number], side), side)
        if part is None or compared(low, part[0]) < 0 or compared(high, part[1]) > 0:
            return False
    return True


def in_whole(rows):
    """The rows (number, low, high, bar) as (number, low, high), each that begins where the last one ends put to it."""
    found = []
    for number, low, high, bar in rows:
        if found and found[-1][0] == number and found[-1][2] == low:
            found[-1] = (number, found[-1][1], high)
        else:
            found.append((number, low, high))
    return found


def shows_left_out(path, side, far, steps, thing):
    """Whether thing tells what the ways leave out, each part of it with a block that bars it there."""
    if not has_form(thing) or not are_barred(path, side, far, steps, thing):
        return False
    # Rows that don't rise, or reach into the next one, are put together otherwise: so they differ here.
    return in_whole(thing) == in_whole(left_out(path, side, far, steps))

"""Blocks made ready to be laid over segments, by whole numbers: so no fraction is reckoned needlessly.

A part of a segment is told by how far along it, from 0 to 1, as numbers (n, d), d above 0, not
always in lowest terms.
"""

from sidecut.fractions import common_divisor, compared
from sidecut.points import minus, plus, scaled

NOUGHT = (0, 1)
ONE = (1, 1)

# How fine the grid is on which boxes are compared ahead of all closer looks.
GRID = 65536


def spot_of(point):
    """The point as whole numbers (x, y, w), w above 0: it lies at x / w, y / w."""
    (x, low), (y, other) = point
    divisor = common_divisor(low, other)
    return (x * (other // divisor), y * (low // divisor), low // divisor * other)


def line_through(begin, end):
    """The numbers a, b, c for which a * x + b * y + c * w is above 0 just of the spots to the left."""
    (x, y, w), (to_x, to_y, to_w) = begin, end
    return (y * to_w - w * to_y, w * to_x - x * to_w, x * to_y - y * to_x)


def in_lowest_terms(line):
    """The line without a common divisor: so of all edges on it that go the same way it is the same."""
    a, b, c = line
    divisor = common_divisor(common_divisor(a, b), c)
    return (a // divisor, b // divisor, c // divisor)


def off_line(line, spot):
    """Above 0 where the spot is to the left of the line, 0 where it is on it, else below 0."""
    return line[0] * spot[0] + line[1] * spot[1] + line[2] * spot[2]


def box_of(spots):
    """The bounds of the spots on the grid: left, low, right, high."""
    across = [spot[0] * GRID // spot[2] for spot in spots]
    up = [spot[1] * GRID // spot[2] for spot in spots]
    return (min(across), min(up), max(across), max(up))


def are_apart(one, other):
    """Whether two boxes don't meet; then nothing that is in them does."""
    return one[2] < other[0] or other[2] < one[0] or one[3] < other[1] or other[3] < one[1]


def edge_lines(block):
    """The list of the lines on which a block's edges are, as these go."""
    spots = [spot_of(corner) for corner in block[2]]
    return [line_through(begin, end) for begin, end in zip(spots, spots[1:] + spots[:1])]


def shape_of(block):
    """A block's shape: its box and its edges' lines."""
    lines = [in_lowest_terms(line) for line in edge_lines(block)]
    return (box_of([spot_of(corner) for corner in block[2]]), tuple(lines))


def shapes_of(laid):
    """The list of the shapes of a list of blocks."""
    return [shape_of(block) for block in laid]


def segment_of(begin, end):
    """The segment between two unlike points: its box, both its spots and its line."""
    spots = (spot_of(begin), spot_of(end))
    return (box_of(spots), spots, in_lowest_terms(line_through(spots[0], spots[1])))


def overlap(shape, segment):
    """What part of a segment is in a shape: (low, high, hand), or None where that is a point or less.

    hand is "in" where the segment goes through the shape, "left" or "right" where it goes along its
    edge and the shape is on that hand.
    """
    box, (begin, end), own = segment
    if are_apart(shape[0], box):
        return None
    low, high, hand = NOUGHT, ONE, "in"
    for line in shape[1]:
        # Both times the other one's w: so they are of one measure.
        first, last = off_line(line, begin) * end[2], off_line(line, end) * begin[2]
        if first <= 0 and last <= 0:
            if first < 0 or last < 0:
                return None
            hand = "left" if line == own else "right"
        elif first < 0:
            low = later(low, (-first, last - first))
        elif last < 0:
            high = earlier(high, (first, first - last))
    return (low, high, hand) if compared(low, high) < 0 else None


def later(one, other):
    """The greater one of two parts."""
    return other if compared(one, other) < 0 else one


def earlier(one, other):
    """The lesser one of two parts."""
    return one if compared(one, other) < 0 else other


def parted(rows, low, high, name):
    """Rows (low, high, name) along a segment, what has no name yet from low to high given that name."""
    found = []
    for begin, end, given in rows:
        first, last = later(begin, low), earlier(end, high)
        if given is not None or compared(first, last) >= 0:
            found.append((begin, end, given))
            continue
        if compared(begin, first) < 0:
            found.append((begin, first, None))
        found.append((first, last, name))
        if compared(last, end) < 0:
            found.append((last, end, None))
    return found


def point_at(begin, end, part):
    """The point that is so far along from begin to end, part a fraction."""
    return plus(begin, scaled(minus(end, begin), part))

"""What a cutter that goes along ways cuts, and what it leaves in a path's corners."""

from sidecut.blocks import blocks, fan, fan_units, laid_blocks, rays_of
from sidecut.fractions import taken
from sidecut.near import is_reached
from sidecut.patches import size_of, size_within
from sidecut.paths import begin_of, corner_headings, corners
from sidecut.points import left_of, minus, right_of, scaled
from sidecut.ways import stretches


def is_cut(ways, far, point):
    """Whether the cutter of half width far that goes along the ways cuts the point."""
    return any([is_reached(way, point, far) for way in ways])


def cut_bounds(ways, far, steps):
    """Two bounds (least, most) of the size of what is cut along ways of sides alone."""
    least, most = [], []
    for way in ways:
        least.extend(laid_blocks(way, far, steps, True))
        most.extend(laid_blocks(way, far, steps, False))
    return (size_of(least), size_of(most))


def rows_by_side(path, side, far, steps):
    """The rows (begin, end) of stretches by the numbers of the sides that have one, as the path goes."""
    laid = blocks(path, far, steps)
    found = {}
    for number, edge, begin, end in stretches(path, side, far, steps):
        if laid[number][0] == "strip":
            found.setdefault(laid[number][1], []).append((begin, end))
    if side == "right":
        return found
    # A strip's edges go round it: so on the left the stretch that is told first is the last along the path.
    return {number: rows[::-1] for number, rows in found.items()}


def meeting_point(rows, path, number):
    """Where the stretches of both sides at a corner meet, or None where they don't."""
    ahead = (number - 1) % len(path[1])
    if ahead not in rows or number not in rows:
        return None
    last, first = rows[ahead][-1], rows[number][0]
    return last[1] if last[1] == first[0] else None


def kite_at(path, number, word, far, point):
    """The corner, the foot of the point on the side ahead, the point, and its foot on the other side."""
    feet = []
    for heading in corner_headings(path, number):
        off = left_of(heading) if word == "left" else right_of(heading)
        feet.append(minus(point, scaled(off, far)))
    return (begin_of(path, number), feet[0], point, feet[1])


def outline_size(outline):
    """How much a ring of points holds, whichever way it goes round."""
    n, d = size_within([(begin, end) for begin, end in zip(outline, outline[1:] + outline[:1])])
    return (abs(n), d)


def corner_left(path, number, word, far, steps, point):
    """The tuple (number, kite, least, most) of a corner at which the stretches meet at that point."""
    kite = kite_at(path, number, word, far, point)
    size = outline_size(kite)
    # From the point to its feet the same units lead as from the corner's own point round its outside.
    units = fan_units(path, number, word, steps)
    least = taken(size, outline_size(fan("fan", number, point, far, rays_of(units, False), "-")[2]))
    most = taken(size, outline_size(fan("fan", number, point, far, rays_of(units, True), "-")[2]))
    return (number, kite, least, most)


def corners_left(path, side, far, steps):
    """The list of (number, kite, least, most): what is left in the corners that turn to that side."""
    rows = rows_by_side(path, side, far, steps)
    found = []
    for number, word in corners(path):
        if word == side:
            point = meeting_point(rows, path, number)
            if point is not None:
                found.append(corner_left(path, number, word, far, steps, point))
    return found

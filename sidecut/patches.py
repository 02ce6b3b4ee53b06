"""Patches: what a list of blocks covers together, its bounds and its size."""

from sidecut.fractions import added, compared, fraction, over, taken, times
from sidecut.points import cross
from sidecut.shapes import (earlier, edge_lines, later, off_line, overlap, parted, point_at, segment_of,
                            shapes_of, spot_of)

WHOLE = ((0, 1), (1, 1))


def edge_ends(block, edge):
    """The corners at which the edge of that number begins and ends."""
    outline = block[2]
    return (outline[edge], outline[(edge + 1) % len(outline)])


def part_at(ends, point):
    """How far along an edge, from 0 at its begin to 1 at its end, a point on its line is."""
    begin, end = ends
    way = 0 if begin[0] != end[0] else 1
    return over(taken(point[way], begin[way]), taken(end[way], begin[way]))


def bare_parts(shapes, ends, twins):
    """The parts of an edge, rising, that nothing covers from its right or wholly and no twin has."""
    segment = segment_of(ends[0], ends[1])
    rows = [WHOLE + (None,)]
    for shape in shapes:
        laid = overlap(shape, segment)
        if laid is None or laid[2] == "left":
            continue
        if laid[:2] == WHOLE:
            return []
        rows = parted(rows, laid[0], laid[1], True)
    for begin, end in twins:
        rows = parted(rows, part_at(ends, begin), part_at(ends, end), True)
    return [(low, high) for low, high, name in rows if name is None]


def bounds_of(blocks, edges):
    """The rim's rows of those edges alone, a list of tuples (block, edge), rising."""
    shapes = shapes_of(blocks)
    # Edges on the same line that go the same way have their blocks on the same hand.
    by_line = {}
    rows = []
    for number, edge in edges:
        ends = edge_ends(blocks[number], edge)
        twins = by_line.setdefault(shapes[number][1][edge], [])
        for low, high in bare_parts(shapes, ends, twins):
            begin = point_at(ends[0], ends[1], fraction(low[0], low[1]))
            end = point_at(ends[0], ends[1], fraction(high[0], high[1]))
            rows.append((number, edge, begin, end))
        twins.append(ends)
    return rows


def rim(blocks, marks):
    """The list of (block, edge, begin, end): the stretches of edges so marked that bound the patch."""
    edges = []
    for number, block in enumerate(blocks):
        edges.extend([(number, edge) for edge, mark in enumerate(block[3]) if mark in marks])
    return bounds_of(blocks, edges)


def total_of(sizes):
    """The sum of a list of fractions."""
    # Neighbours first: so most sums are of small fractions, whose divisors are soon found.
    while len(sizes) > 1:
        pairs = [added(one, other) for one, other in zip(sizes[::2], sizes[1::2])]
        sizes = pairs + sizes[len(pairs) * 2:]
    return sizes[0] if sizes else (0, 1)


def size_within(bounds):
    """How much lies to the left of the bounds, a list of tuples (begin, end), less what lies to their right."""
    return times(total_of([cross(begin, end) for begin, end in bounds]), (1, 2))


def size_of(blocks):
    """How much the patch covers."""
    edges = []
    for number, block in enumerate(blocks):
        edges.extend([(number, edge) for edge in range(len(block[2]))])
    return size_within([(begin, end) for number, edge, begin, end in bounds_of(blocks, edges)])


def is_in_block(block, spot):
    """Whether a spot is in the block, its edges too."""
    return all([off_line(line, spot) >= 0 for line in edge_lines(block)])


def is_in(blocks, point):
    """Whether the point is in the patch, its bounds too."""
    spot = spot_of(point)
    return any([is_in_block(block, spot) for block in blocks])


def is_within(block, point):
    """Whether the point is in the block and on no edge of it."""
    spot = spot_of(point)
    return all([off_line(line, spot) > 0 for line in edge_lines(block)])


def is_clear_of(shapes, begin, end):
    """Whether no point between two unlike points is within the patch of the blocks of those shapes."""
    segment = segment_of(begin, end)
    beside = {"left": [], "right": []}
    for shape in shapes:
        laid = overlap(shape, segment)
        if laid is None:
            continue
        if laid[2] == "in":
            return False
        beside[laid[2]].append(laid[:2])
    # Between a block on the left and one on the right the segment is within both together.
    for low, high in beside["left"]:
        for other_low, other_high in beside["right"]:
            if compared(later(low, other_low), earlier(high, other_high)) < 0:
                return False
    return True


def is_clear(blocks, begin, end):
    """Whether no point between two unlike points is within the patch."""
    return is_clear_of(shapes_of(blocks), begin, end)

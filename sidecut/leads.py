"""Leads into a way and out of it."""

from sidecut.blocks import blocks
from sidecut.patches import is_clear_of
from sidecut.paths import begin_of, end_of, headings, is_closed
from sidecut.points import minus, plus, scaled
from sidecut.shapes import shapes_of
from sidecut.ways import ways


def if_clear(shapes, begin, end):
    """The path of one side from begin to end, or None where some point of it is within the patch."""
    # What is within is so with all that is near it: so both ends need no look of their own.
    return (begin, (("side", end),)) if is_clear_of(shapes, begin, end) else None


def clear_in(shapes, way, long):
    """The lead into the way, or None."""
    begin = minus(way[0], scaled(headings(way, 0)[0], long))
    return if_clear(shapes, begin, way[0])


def clear_out(shapes, way, long):
    """The lead out of the way, or None."""
    last = len(way[1]) - 1
    begin = end_of(way[1][last])
    return if_clear(shapes, begin, plus(begin, scaled(headings(way, last)[1], long)))


def lead_in(path, side, far, steps, way, long):
    """The path of one side, so long, straight ahead into the way, or None where it isn't clear."""
    return clear_in(shapes_of(blocks(path, far, steps)), way, long)


def lead_out(path, side, far, steps, way, long):
    """The path of one side, so long, straight on behind the way, or None where it isn't clear."""
    return clear_out(shapes_of(blocks(path, far, steps)), way, long)


def turned_to(way, number):
    """The closed way, begun with its side of that number."""
    return (begin_of(way, number), way[1][number:] + way[1][:number])


def led_closed(shapes, way, long):
    """The tuple (into, way, out) of a closed way."""
    for number in range(len(way[1])):
        turned = turned_to(way, number)
        into = clear_in(shapes, turned, long)
        out = None if into is None else clear_out(shapes, turned, long)
        if out is not None:
            return (into, turned, out)
    return (None, way, None)


def led(path, side, far, steps, long):
    """The list of a tuple (into, way, out) for each way on that side of the path."""
    shapes = shapes_of(blocks(path, far, steps))
    found = []
    for way in ways(path, side, far, steps):
        if is_closed(way):
            found.append(led_closed(shapes, way, long))
        else:
            found.append((clear_in(shapes, way, long), way, clear_out(shapes, way, long)))
    return found

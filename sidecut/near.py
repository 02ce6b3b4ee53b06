"""What is near a path: how far a point is away from its pieces."""

from sidecut.fractions import added, compared, over, taken, times
from sidecut.paths import arc_vectors, begin_of, end_of, ends_of, is_side, radius_of
from sidecut.points import cross, dot, minus, scaled


def part_along(vector, way):
    """What part of the vector, from 0 to 1, is nearest to where way leads."""
    part = over(dot(vector, way), dot(vector, vector))
    if part[0] < 0:
        return (0, 1)
    return part if compared(part, (1, 1)) < 0 else (1, 1)


def apart(path, number, point):
    """The square of the least way from the side of that number to point."""
    begin = begin_of(path, number)
    along = minus(end_of(path[1][number]), begin)
    way = minus(point, begin)
    off = minus(way, scaled(along, part_along(along, way)))
    return dot(off, off)


def is_between(first, last, way):
    """Whether way is among the vectors from the first, turning to the left, to the last one."""
    if cross(first, last)[0] > 0:
        return cross(first, way)[0] >= 0 and cross(way, last)[0] >= 0
    # By half a turn or more: all but what lies in the gap from the last to the first.
    return cross(last, way)[0] <= 0 or cross(way, first)[0] <= 0


def is_on_ray(path, number, point):
    """Whether a ray from the middle of the arc of that number through point meets the arc."""
    first, last = arc_vectors(path, number)
    return is_between(first, last, minus(point, path[1][number][1]))


def is_near_circle(path, number, point, by, below):
    """Whether point is so near to the circle on which the arc of that number is."""
    way = minus(point, path[1][number][1])
    square = dot(way, way)
    radius = radius_of(path, number)
    # The way's length may be no fraction, so its square is compared with those of both bounds.
    high, low = added(radius, by), taken(radius, by)
    if compared(square, times(high, high)) >= below:
        return False
    return low[0] < 0 or compared(times(low, low), square) < below


def is_near_piece(path, number, point, by, below):
    """Whether point is so near to the side, or, on a ray that meets it, to the arc of that number."""
    if is_side(path[1][number]):
        return compared(apart(path, number, point), times(by, by)) < below
    return is_on_ray(path, number, point) and is_near_circle(path, number, point, by, below)


def is_so_near(path, point, by, below):
    """Whether some point of the path is less than by away from point: below 0; or by at most: below 1."""
    for number in range(len(path[1])):
        if is_near_piece(path, number, point, by, below):
            return True
    # Of an arc that the ray through point misses an end is the nearest.
    for end in ends_of(path):
        off = minus(point, end)
        if compared(dot(off, off), times(by, by)) < below:
            return True
    return False


def is_near(path, point, by):
    """Whether some point of the path is less than by away from point."""
    return is_so_near(path, point, by, 0)


def is_reached(path, point, by):
    """Whether some point of the path is at most by away from point."""
    return is_so_near(path, point, by, 1)

"""Points and vectors: tuples (x, y) of fractions, x to the right, y up."""

from sidecut.fractions import added, over, root_of, taken, times


def plus(one, other):
    """The sum of both, part by part."""
    return (added(one[0], other[0]), added(one[1], other[1]))


def minus(one, other):
    """The one less the other, part by part."""
    return (taken(one[0], other[0]), taken(one[1], other[1]))


def scaled(vector, by):
    """The vector with both its parts times the fraction by."""
    return (times(vector[0], by), times(vector[1], by))


def dot(one, other):
    """x times x and y times y, together."""
    return added(times(one[0], other[0]), times(one[1], other[1]))


def cross(one, other):
    """Above 0 where the other is to the left of the one, by less than half a turn."""
    return taken(times(one[0], other[1]), times(one[1], other[0]))


def left_of(vector):
    """The vector turned to the left by a quarter turn."""
    x, y = vector
    return ((-y[0], y[1]), x)


def right_of(vector):
    """The vector turned to the right by a quarter turn."""
    x, y = vector
    return (y, (-x[0], x[1]))


def flipped(vector):
    """The vector mirrored: -x in the place of x."""
    x, y = vector
    return ((-x[0], x[1]), y)


def length_of(vector):
    """The vector's length, or None where no fraction is its length."""
    return root_of(dot(vector, vector))


def unit_of(vector):
    """The vector over its length, or None where that is None or 0."""
    length = length_of(vector)
    if length is None or length == (0, 1):
        return None
    return (over(vector[0], length), over(vector[1], length))

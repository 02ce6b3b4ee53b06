"""Several rounds beside a path, from outside in."""

from sidecut.fractions import added, times
from sidecut.ways import ways


def rounds(path, side, far, step, many, steps):
    """The list of tuples (by, ways): how far off, and the ways so far off, the furthest first."""
    found = []
    for k in range(many - 1, -1, -1):
        by = added(far, times(step, (k, 1)))
        found.append((by, ways(path, side, by, steps)))
    return found

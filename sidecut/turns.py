"""Units, which are vectors of length 1, and turns from one to another by told steps."""

from sidecut.fractions import added, compared, fraction, over, taken, times
from sidecut.points import cross, dot, flipped, plus, scaled

ONE = (1, 1)


def turned(unit, by):
    """The unit turned to the left as (1, 0) would be turned to the unit by."""
    x, y = unit
    c, s = by
    return (taken(times(x, c), times(y, s)), added(times(x, s), times(y, c)))


def turn_of(tangent):
    """The unit to which (1, 0) is turned, tangent being that of half the turn."""
    n, d = tangent
    both = d * d + n * n
    return (fraction(d * d - n * n, both), fraction(2 * d * n, both))


def stepped(unit, tangent, steps):
    """The units behind unit, so many as steps, up to a turn whose half has that tangent."""
    turns = [turn_of(times(tangent, fraction(k, steps))) for k in range(1, steps + 1)]
    return [turned(unit, by) for by in turns]


def has_quarter(one, other):
    """Whether the turn to the left from the one to the other is a quarter turn or more."""
    return dot(one, other)[0] <= 0 or cross(one, other)[0] < 0


def quarters_between(one, other, steps):
    """The list of units from the one to another one, to the left, quarter turns first."""
    units = [one]
    while has_quarter(units[-1], other):
        units.extend(stepped(units[-1], ONE, steps))
    last = units[-1]
    if last != other:
        tangent = over(cross(last, other), added(ONE, dot(last, other)))
        units.extend(stepped(last, tangent, steps))
    return units


def turn_size(one, other):
    """A fraction that rises with the turn to the left from the one to the other."""
    # The dot alone falls and rises again, so behind half a turn it is counted the other way.
    if cross(one, other)[0] >= 0:
        return taken(ONE, dot(one, other))
    return added((3, 1), dot(one, other))


def merged(ahead, back, one):
    """The units of two lists, both by their turn from the one and with the same last unit, each once."""
    units = []
    at = 0
    for unit in ahead:
        size = turn_size(one, unit)
        while compared(turn_size(one, back[at]), size) < 0:
            units.append(back[at])
            at += 1
        if back[at] == unit:
            at += 1
        units.append(unit)
    return units


def units_between(one, other, steps):
    """The list of units from the one to another one, to the left, the same from either end."""
    ahead = quarters_between(one, other, steps)
    back = quarters_between(flipped(other), flipped(one), steps)
    return merged(ahead, [flipped(unit) for unit in back[::-1]], one)


def least_dot(units):
    """The least dot of two neighbours in a list of two units or more."""
    least = dot(units[0], units[1])
    for one, other in zip(units[1:], units[2:]):
        found = dot(one, other)
        if compared(found, least) < 0:
            least = found
    return least


def tip_of(one, other):
    """Where the lines meet that touch the circle of half width 1 at two units."""
    return scaled(plus(one, other), over(ONE, added(ONE, dot(one, other))))

"""Blocks, which together keep the cutter's middle off a path."""

from sidecut.fractions import added, compared, over, taken, times
from sidecut.paths import (arc_vectors, begin_of, corner_headings, corners, end_of, headings, is_closed,
                           is_side, radius_of)
from sidecut.points import left_of, minus, plus, right_of, scaled, unit_of
from sidecut.turns import least_dot, tip_of, units_between

NOUGHT = (0, 1)
ONE = (1, 1)
TWO = (2, 1)

# A corner's fan lies on its outside, so it bears a way on the other hand than the corner turns to.
FAN_MARKS = {"left": "r", "right": "l", "back": "b"}
OTHER_MARK = {"l": "r", "r": "l", "-": "-"}


def side_strip(path, number, far):
    """The block of a straight side."""
    begin, to = begin_of(path, number), end_of(path[1][number])
    reach = scaled(left_of(headings(path, number)[0]), far)
    outline = (minus(begin, reach), minus(to, reach), plus(to, reach), plus(begin, reach))
    return ("strip", number, outline, "r-l-")


def tips_of(units):
    """The tips of each two neighbours."""
    return [tip_of(one, other) for one, other in zip(units, units[1:])]


def rays_of(units, is_least):
    """The vectors to a fan's corners but its point: is_least where the fan is to be within the round."""
    if is_least:
        return units
    return [units[0]] + tips_of(units) + [units[-1]]


def fan(word, number, point, far, rays, mark):
    """The block round a point, its other corners as far along the rays as far tells."""
    outline = [point] + [plus(point, scaled(ray, far)) for ray in rays]
    return (word, number, tuple(outline), "-" + mark * (len(rays) - 1) + "-")


def fan_units(path, number, word, steps):
    """The units of the fan at the corner of that number, which doesn't go straight on."""
    u, w = corner_headings(path, number)
    if word == "left":
        return units_between(right_of(u), right_of(w), steps)
    if word == "right":
        return units_between(left_of(w), left_of(u), steps)
    return units_between(right_of(u), left_of(u), steps)


def corner_fan(path, number, word, far, steps, is_least):
    """The fan at the corner of that number, which doesn't go straight on."""
    rays = rays_of(fan_units(path, number, word, steps), is_least)
    return fan("fan", number, begin_of(path, number), far, rays, FAN_MARKS[word])


def start_cap(path, far, steps, is_least):
    """The cap at the start of a path that isn't closed."""
    u = headings(path, 0)[0]
    rays = rays_of(units_between(left_of(u), right_of(u), steps), is_least)
    return fan("cap", 0, path[0], far, rays, "e")


def end_cap(path, far, steps, is_least):
    """The cap at the end of a path that isn't closed."""
    last = len(path[1]) - 1
    u = headings(path, last)[1]
    rays = rays_of(units_between(right_of(u), left_of(u), steps), is_least)
    return fan("cap", last, end_of(path[1][last]), far, rays, "e")


def arc_units(path, number, steps):
    """The units of the arc of that number, as from its middle, always turning to the left."""
    first, last = arc_vectors(path, number)
    return units_between(unit_of(first), unit_of(last), steps)


def inner_of(radius, far, least):
    """How far from its middle an arc's blocks begin, least being the least dot of its units."""
    if compared(far, radius) >= 0:
        return NOUGHT
    return times(taken(radius, far), over(added(ONE, least), TWO))


def with_tips(units):
    """The units, and between each two neighbours their tip."""
    rays = [units[0]]
    for tip, unit in zip(tips_of(units), units[1:]):
        rays.append(tip)
        rays.append(unit)
    return rays


def sector_marks(many, is_whole, turn):
    """The marks of the many sectors of an arc, is_whole where they reach its middle."""
    if is_whole:
        marks = ["-r-"] * many
    else:
        # Inner is nearer to the middle than far beside the arc: the steps at both ends bear a way, too.
        marks = ["lr-l"] + ["-r-l"] * (many - 2) + ["-rll"]
    if turn == "left":
        return marks
    return ["".join([OTHER_MARK[sign] for sign in row]) for row in marks]


def sectors(path, number, far, steps):
    """The list of the blocks of an arc."""
    middle, turn = path[1][number][1], path[1][number][3]
    radius = radius_of(path, number)
    units = arc_units(path, number, steps)
    inner = inner_of(radius, far, least_dot(units))
    outer = added(radius, far)
    rays = with_tips(units)
    marks = sector_marks(len(rays) - 1, inner == NOUGHT, turn)
    found = []
    for one, other, row in zip(rays, rays[1:], marks):
        high = (plus(middle, scaled(one, outer)), plus(middle, scaled(other, outer)))
        if inner == NOUGHT:
            outline = (middle,) + high
        else:
            outline = (plus(middle, scaled(one, inner)),) + high + (plus(middle, scaled(other, inner)),)
        found.append(("sector", number, outline, row))
    return found


def piece_blocks(path, number, far, steps):
    """The list of the blocks of the piece of that number itself."""
    if is_side(path[1][number]):
        return [side_strip(path, number, far)]
    return sectors(path, number, far, steps)


def bends(path):
    """The words of the corners that don't go straight on, by their numbers."""
    return {number: word for number, word in corners(path) if word != "straight"}


def laid_blocks(path, far, steps, is_least):
    """The list of all blocks of the path, is_least where its fans and caps are to be within the round."""
    words = bends(path)
    found = []
    for number in range(len(path[1])):
        found.extend(piece_blocks(path, number, far, steps))
        behind = (number + 1) % len(path[1])
        if behind in words:
            found.append(corner_fan(path, behind, words[behind], far, steps, is_least))
    if is_closed(path):
        return found
    return [start_cap(path, far, steps, is_least)] + found + [end_cap(path, far, steps, is_least)]


def blocks(path, far, steps):
    """The list of all blocks of the path, from its start to its end."""
    return laid_blocks(path, far, steps, False)


def widened(one, least):
    """The fraction one times 2 over (1 and least): no tip of neighbours with such a dot is further off."""
    return over(times(one, TWO), added(ONE, least))


def arc_offs(path, number, far, steps):
    """How far away from an arc the edges of its blocks may be: outside it, and inside it."""
    radius = radius_of(path, number)
    least = least_dot(arc_units(path, number, steps))
    offs = [taken(widened(added(radius, far), least), radius)]
    inner = inner_of(radius, far, least)
    if inner != NOUGHT:
        offs.append(taken(radius, inner))
    return offs


def most_off(path, far, steps):
    """How far away from the path an edge that bears a way on a side may be at most."""
    offs = []
    for number, word in bends(path).items():
        offs.append(widened(far, least_dot(fan_units(path, number, word, steps))))
    for number, piece in enumerate(path[1]):
        if not is_side(piece):
            offs.extend(arc_offs(path, number, far, steps))
    most = far
    for off in offs:
        if compared(off, most) > 0:
            most = off
    return most

"""Paths: tuples (start, pieces), the pieces straight sides and arcs, one behind the other."""

from sidecut.fractions import is_fraction
from sidecut.points import cross, flipped, left_of, length_of, minus, plus, right_of, unit_of

OTHER_TURN = {"left": "right", "right": "left"}


def is_point(thing):
    """Whether thing is a point, of any size."""
    if not isinstance(thing, tuple) or len(thing) != 2:
        return False
    return is_fraction(thing[0]) and is_fraction(thing[1])


def is_piece(thing):
    """Whether thing has a piece's form; where it begins isn't looked at."""
    if not isinstance(thing, tuple):
        return False
    if len(thing) == 2:
        return thing[0] == "side" and is_point(thing[1])
    if len(thing) == 4:
        has_turn = thing[3] == "left" or thing[3] == "right"
        return thing[0] == "arc" and is_point(thing[1]) and is_point(thing[2]) and has_turn
    return False


def is_side(piece):
    """Whether a piece is a straight side, not an arc."""
    return piece[0] == "side"


def end_of(piece):
    """The point at which a piece ends."""
    return piece[1] if is_side(piece) else piece[2]


def begin_of(path, number):
    """The point at which the piece of that number begins."""
    return path[0] if number == 0 else end_of(path[1][number - 1])


def can_begin_at(piece, begin):
    """Whether a thing of a piece's form is a piece where it begins at begin."""
    to = end_of(piece)
    if to == begin:
        return False
    if is_side(piece):
        return length_of(minus(to, begin)) is not None
    # The radius is above 0: were it 0, both ends would be at the middle, and so alike.
    radius = length_of(minus(begin, piece[1]))
    return radius is not None and radius == length_of(minus(to, piece[1]))


def is_path(thing):
    """Whether thing is a path, of any size and any number of pieces."""
    if not isinstance(thing, tuple) or len(thing) != 2:
        return False
    begin, pieces = thing
    if not is_point(begin) or not isinstance(pieces, tuple) or len(pieces) == 0:
        return False
    for piece in pieces:
        if not is_piece(piece) or not can_begin_at(piece, begin):
            return False
        begin = end_of(piece)
    return True


def ends_of(path):
    """The list of the path's start and of each piece's end."""
    return [path[0]] + [end_of(piece) for piece in path[1]]


def is_closed(path):
    """Whether the path ends at its start."""
    return end_of(path[1][-1]) == path[0]


def radius_of(path, number):
    """The radius of the arc of that number, None of a side."""
    piece = path[1][number]
    if is_side(piece):
        return None
    return length_of(minus(end_of(piece), piece[1]))


def arc_vectors(path, number):
    """The vectors from an arc's middle to both its ends, that first from which the arc is to the left."""
    piece = path[1][number]
    begin = minus(begin_of(path, number), piece[1])
    to = minus(end_of(piece), piece[1])
    return (begin, to) if piece[3] == "left" else (to, begin)


def arc_heading(piece, point):
    """The direction in which an arc goes at a point of it."""
    unit = unit_of(minus(point, piece[1]))
    return left_of(unit) if piece[3] == "left" else right_of(unit)


def headings(path, number):
    """The directions of the piece of that number at its begin and at its end."""
    piece = path[1][number]
    begin, to = begin_of(path, number), end_of(piece)
    if is_side(piece):
        direction = unit_of(minus(to, begin))
        return (direction, direction)
    return (arc_heading(piece, begin), arc_heading(piece, to))


def corner_headings(path, number):
    """The directions at the begin of a piece: in which the one ahead ends, in which it begins."""
    # Ahead of piece 0 of a closed path is the last one.
    ahead = (number - 1) % len(path[1])
    return (headings(path, ahead)[1], headings(path, number)[0])


def corner_word(path, number):
    """How the path turns at the begin of the piece of that number, at which another one ends."""
    u, w = corner_headings(path, number)
    if u == w:
        return "straight"
    bend = cross(u, w)[0]
    if bend > 0:
        return "left"
    return "right" if bend < 0 else "back"


def corners(path):
    """The list of tuples (number, word), for each piece at whose begin another one ends."""
    first = 0 if is_closed(path) else 1
    return [(number, corner_word(path, number)) for number in range(first, len(path[1]))]


def turned_about(path):
    """The path that goes from its end to its start."""
    ends = ends_of(path)
    pieces = []
    for number, piece in enumerate(path[1]):
        to = ends[number]
        if is_side(piece):
            pieces.append(("side", to))
        else:
            pieces.append(("arc", piece[1], to, OTHER_TURN[piece[3]]))
    return (ends[-1], tuple(pieces[::-1]))


def mirrored(path):
    """The path with -x in the place of x in each point, and each turn the other one."""
    pieces = []
    for piece in path[1]:
        to = flipped(end_of(piece))
        if is_side(piece):
            pieces.append(("side", to))
        else:
            pieces.append(("arc", flipped(piece[1]), to, OTHER_TURN[piece[3]]))
    return (flipped(path[0]), tuple(pieces))


def moved(path, vector):
    """The path with the vector added to each point."""
    pieces = []
    for piece in path[1]:
        to = plus(end_of(piece), vector)
        if is_side(piece):
            pieces.append(("side", to))
        else:
            pieces.append(("arc", plus(piece[1], vector), to, piece[3]))
    return (plus(path[0], vector), tuple(pieces))

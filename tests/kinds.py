"""What the tests share: checks of what is told, by Python's own means, and samples."""

import math
import random
import unittest
from fractions import Fraction

BIG = 10 ** 70 + 33
BIGGER = 7 ** 150 * 10 ** 20 + 1

SMALL = sorted({(f.numerator, f.denominator)
                for f in (Fraction(n, d) for n in range(-5, 6) for d in range(1, 6))})
LARGE = [(BIG, 1), (-BIG, BIGGER), (BIGGER, BIG), (-1, BIGGER), (9999, 999 * 1000 + 1),
         (-9999, 998), (2 ** 521 - 1, 2 ** 300)]
FRACTIONS = SMALL + [(f.numerator, f.denominator) for f in (Fraction(n, d) for n, d in LARGE)]


def value(one):
    """A told fraction as Python's own."""
    return Fraction(one[0], one[1])


def whole(x, y):
    """The point of two whole numbers."""
    return ((x, 1), (y, 1))


def ratio(one):
    """The fraction of one of Python's own, or of its text."""
    one = Fraction(one)
    return (one.numerator, one.denominator)


def point(x, y):
    """The point of two of Python's own fractions, or of their texts."""
    return (ratio(x), ratio(y))


def pair(vector):
    """A told vector as a pair of Python's own fractions."""
    return (value(vector[0]), value(vector[1]))


def unit(tangent):
    """The unit whose half turn from (1, 0) has that tangent."""
    t = Fraction(tangent)
    return point((1 - t * t) / (1 + t * t), 2 * t / (1 + t * t))


def side(x, y):
    """A side to there."""
    return ("side", point(x, y))


def arc(mx, my, x, y, turn):
    """An arc round the one point to the other."""
    return ("arc", point(mx, my), point(x, y), turn)


def along(begin, *ends):
    """The path of sides along such points."""
    return (point(*begin), tuple(side(x, y) for x, y in ends))


UNITS = [whole(1, 0), whole(0, 1), whole(-1, 0), whole(0, -1), ((3, 5), (4, 5)), ((-4, 5), (3, 5)),
         ((-5, 13), (-12, 13)), ((8, 17), (-15, 17)), unit("1/100"), unit("-1/100"),
         unit("-99/100"), unit(99), unit(-99), unit(Fraction(1, BIG)), unit(Fraction(BIGGER, BIG))]

ORIGIN = whole(0, 0)
SQUARE = (ORIGIN, (side(4, 0), side(4, 4), side(0, 4), side(0, 0)))
RIGHT_SQUARE = (ORIGIN, (side(0, 4), side(4, 4), side(4, 0), side(0, 0)))
MID_SQUARE = (whole(2, 0), (side(4, 0), side(4, 4), side(0, 4), side(0, 0), side(2, 0)))
THERE_AND_BACK = (ORIGIN, (side(4, 3), side(0, 0)))
BACK = (ORIGIN, (side(5, 0), side(2, 0), side(2, 3)))
ONE_SIDE = (point("1/2", "-1/3"), (side("7/2", "11/3"),))
STRAIGHT = (ORIGIN, (side(3, 4), side(6, 8), side(9, 4)))
QUARTER_LEFT = (whole(4, 0), (arc(0, 0, 0, 4, "left"),))
QUARTER_RIGHT = (whole(0, 4), (arc(0, 0, 4, 0, "right"),))
HALF_LEFT = (whole(4, 0), (arc(0, 0, -4, 0, "left"),))
HALF_RIGHT = (whole(4, 0), (arc(0, 0, -4, 0, "right"),))
MOST_LEFT = (whole(4, 0), (arc(0, 0, 0, -4, "left"),))
MOST_RIGHT = (whole(4, 0), (arc(0, 0, 0, 4, "right"),))
NEARLY_WHOLE = (whole(5, 0), (arc(0, 0, "24/5", "-7/5", "left"),))
LITTLE = (whole(13, 0), (arc(0, 0, "312/25", "91/25", "left"),))
LENS = (whole(3, 0), (arc(0, -4, -3, 0, "left"), arc(0, 4, 3, 0, "left")))
PAIR_OF_HALVES = (whole(2, 0), (arc(0, 0, -2, 0, "left"), arc(0, 0, 2, 0, "left")))
SLOT = (ORIGIN, (side(6, 0), arc(6, 2, 6, 4, "left"), side(0, 4), arc(0, 2, 0, 0, "left")))
WINDING = (point("-7/2", 1), (side("-1/2", 5), arc("-1/2", 3, "11/10", "9/5", "right"), side(5, "9/5"),
                              arc(5, "14/5", 6, "14/5", "left"), side(6, 0),
                              arc("15/2", 0, 9, 0, "right"), side(9, "-13/5"), side("-3/65", "-13/5")))
CUSP = (ORIGIN, (arc(0, 3, 3, 3, "left"), arc(0, 3, 0, 0, "right")))
TWELVE = (ORIGIN, tuple(side(x, y) for x, y in [
    (3, 4), (8, 16), (8, 20), ("23/2", 20), ("23/2", 18), ("35/2", 10), (10, 10), (10, "25/2"),
    (4, "9/2"), (0, "15/2"), (0, 3), (0, 0)]))

PATHS = {
    "square": SQUARE, "right square": RIGHT_SQUARE, "mid square": MID_SQUARE,
    "there and back": THERE_AND_BACK, "back": BACK, "one side": ONE_SIDE, "straight": STRAIGHT,
    "quarter left": QUARTER_LEFT, "quarter right": QUARTER_RIGHT, "half left": HALF_LEFT,
    "half right": HALF_RIGHT, "most left": MOST_LEFT, "most right": MOST_RIGHT,
    "nearly whole": NEARLY_WHOLE, "little": LITTLE, "lens": LENS, "two halves": PAIR_OF_HALVES,
    "slot": SLOT, "winding": WINDING, "cusp": CUSP, "twelve": TWELVE,
}
CLOSED = ("square", "right square", "mid square", "there and back", "lens", "two halves", "slot",
          "cusp", "twelve")


def begins(path):
    """The points at which the pieces begin, in order."""
    found = [path[0]]
    for piece in path[1]:
        found.append(piece[-1] if piece[0] == "side" else piece[2])
    return found[:-1]


def by_turns(one, by):
    """A pair turned as (1, 0) would be turned to the other pair."""
    (x, y), (c, s) = one, by
    return (x * c - y * s, x * s + y * c)


def turn_between(one, other):
    """The turn to the left from a pair to another one: whole quarters, and the rest's tangent."""
    (a, b), (c, d) = one, other
    along, across = a * c + b * d, a * d - b * c
    for quarters in range(4):
        if along > 0 and across >= 0:
            return (quarters, across / along)
        along, across = across, -along
    raise AssertionError("a vector of no length")


def own_quarters(one, other, steps):
    """The pairs that quarters_between is asked to tell of two pairs, by whole quarters and a rest."""
    s, found = Fraction(steps), [one]

    def go(h):
        begin = found[-1]
        for k in range(1, steps + 1):
            low = s * s + k * k * h * h
            found.append(by_turns(begin, ((s * s - k * k * h * h) / low, 2 * s * k * h / low)))

    for _ in range(turn_between(one, other)[0]):
        go(Fraction(1))
    (a, b), (c, d) = found[-1], other
    if found[-1] != other:
        go((a * d - b * c) / (1 + a * c + b * d))
    return found


def own_units(one, other, steps):
    """The pairs that units_between is asked to tell of two pairs."""
    both = set(own_quarters(one, other, steps))
    for x, y in own_quarters((-other[0], other[1]), (-one[0], one[1]), steps):
        both.add((-x, y))
    return sorted(both, key=lambda each: turn_between(one, each))


def arc_pairs(path, number):
    """Middle, radius and both ends' units of an arc as pairs, by its turn to the left."""
    _, middle, to, turn = path[1][number]
    (mx, my), (x, y), (bx, by) = pair(middle), pair(to), pair(begins(path)[number])
    square = (x - mx) ** 2 + (y - my) ** 2
    radius = Fraction(math.isqrt(square.numerator), math.isqrt(square.denominator))
    ends = [((bx - mx) / radius, (by - my) / radius), ((x - mx) / radius, (y - my) / radius)]
    return (mx, my), radius, ends if turn == "left" else ends[::-1]


def points_on(path):
    """Pairs on the path, both ends of each piece among them."""
    found = []
    for number, piece in enumerate(path[1]):
        if piece[0] == "side":
            (px, py), (qx, qy) = pair(begins(path)[number]), pair(piece[1])
            found += [(px + (qx - px) * k / 6, py + (qy - py) * k / 6) for k in range(7)]
        else:
            (mx, my), radius, ends = arc_pairs(path, number)
            found += [(mx + radius * x, my + radius * y) for x, y in own_quarters(*ends, 7)]
    return found


def about_way(path, x, y):
    """How far about x, y is away from the path, by Python's floats."""
    ways = []
    for number, piece in enumerate(path[1]):
        px, py = map(float, pair(begins(path)[number]))
        if piece[0] == "side":
            qx, qy = map(float, pair(piece[1]))
            part = ((x - px) * (qx - px) + (y - py) * (qy - py)) / ((qx - px) ** 2 + (qy - py) ** 2)
            part = min(1.0, max(0.0, part))
            ways.append(math.hypot(x - px - part * (qx - px), y - py - part * (qy - py)))
        else:
            (mx, my), radius, ends = arc_pairs(path, number)
            mx, my, radius = float(mx), float(my), float(radius)
            low, high = (math.atan2(float(b), float(a)) for a, b in ends)
            angle = (math.atan2(y - my, x - mx) - low) % math.tau
            if angle <= (high - low) % math.tau:
                ways.append(abs(math.hypot(x - mx, y - my) - radius))
            ways += [math.hypot(x - mx - radius * float(a), y - my - radius * float(b)) for a, b in ends]
    return min(ways)


def outline_of(block):
    """A block's corners as pairs."""
    return [pair(corner) for corner in block[2]]


def edges_of(outline):
    """The edges of an outline of pairs, in order."""
    return list(zip(outline, outline[1:] + outline[:1]))


def crossed(one, other):
    """The cross of two pairs."""
    return one[0] * other[1] - one[1] * other[0]


def less(one, other):
    """The one pair less the other."""
    return (one[0] - other[0], one[1] - other[1])


def between(one, other, part):
    """The pair that is so far along from the one to the other."""
    return (one[0] + (other[0] - one[0]) * part, one[1] + (other[1] - one[1]) * part)


def off_edge(edge, at):
    """Above 0 where the pair is to the left of the edge."""
    return crossed(less(edge[1], edge[0]), less(at, edge[0]))


def own_is_within(outlines, at):
    """Whether a round about the pair is in the outlines together, by all directions from there."""
    cones = []
    for outline in outlines:
        offs = [(off_edge(edge, at), less(edge[1], edge[0])) for edge in edges_of(outline)]
        if min(off for off, _ in offs) >= 0:
            cones.append([way for off, way in offs if off == 0])
    if [] in cones:
        return True
    ways = {way for cone in cones for way in cone}
    ways |= {(-x, -y) for x, y in ways} | {(1, 0), (0, 1), (-1, 0), (0, -1)}
    ring = sorted(ways, key=lambda way: turn_between((1, 0), way))
    turns = [turn_between((1, 0), way) for way in ring]
    for number, one in enumerate(ring):
        if turns[number] == turns[number - 1]:
            continue
        # The next direction that isn't the same; axes stand in the ring, so it is a quarter on at most.
        other = next(ring[(number + k) % len(ring)] for k in range(1, len(ring))
                     if turns[(number + k) % len(ring)] != turns[number])
        middle = (one[0] + other[0], one[1] + other[1])
        if not any(all(crossed(way, middle) > 0 for way in cone) for cone in cones):
            return False
    return True


def crossing_parts(begin, end, outlines):
    """The parts of the way from begin to end, rising from 0 to 1, where it may come into an outline or out of it."""
    found = {Fraction(0), Fraction(1)}
    for outline in outlines:
        for edge in edges_of(outline):
            first, last = off_edge(edge, begin), off_edge(edge, end)
            if first != last and min(first, last) <= 0 <= max(first, last):
                found.add(first / (first - last))
        for corner in outline:
            if crossed(less(end, begin), less(corner, begin)) == 0:
                way = 0 if begin[0] != end[0] else 1
                found.add((corner[way] - begin[way]) / (end[way] - begin[way]))
    return sorted(part for part in found if 0 <= part <= 1)


def own_rim(blocks, marks):
    """The rim as the document's words have it, by a look at the middle between all crossings."""
    outlines = [outline_of(block) for block in blocks]
    found = []
    for number, block in enumerate(blocks):
        for edge, (begin, end) in enumerate(edges_of(outlines[number])):
            if block[3][edge] not in marks:
                continue
            parts, bare = crossing_parts(begin, end, outlines), []
            for low, high in zip(parts, parts[1:]):
                at = between(begin, end, (low + high) / 2)
                if own_is_within(outlines, at) or is_twin(blocks[:number], marks, begin, end, at):
                    continue
                if bare and bare[-1][1] == low:
                    low = bare.pop()[0]
                bare.append((low, high))
            for low, high in bare:
                found.append((number, edge, point(*between(begin, end, low)), point(*between(begin, end, high))))
    return found


def is_twin(ahead, marks, begin, end, at):
    """Whether at is on an edge so marked of one of the blocks ahead that goes from begin to end, too."""
    for block in ahead:
        for (one, other), mark in zip(edges_of(outline_of(block)), block[3]):
            (dx, dy), (x, y) = less(end, begin), less(other, one)
            goes_along = dx * y - dy * x == 0 and dx * x + dy * y > 0
            if mark in marks and goes_along and off_edge((one, other), at) == 0:
                if min(one, other) <= at <= max(one, other):
                    return True
    return False


def own_size(blocks):
    """How much the blocks cover, by upright slices between all places where edges begin, end or cross."""
    edges = [edge for block in blocks for edge in edges_of(outline_of(block))]
    across = {x for edge in edges for x, _ in edge}
    for one in edges:
        for other in edges:
            first, last = off_edge(one, other[0]), off_edge(one, other[1])
            if first * last < 0:
                across.add(between(*other, first / (first - last))[0])
    across, size = sorted(across), Fraction(0)
    for left, right in zip(across, across[1:]):
        middle, spans = (left + right) / 2, []
        for block in blocks:
            heights = []
            for (x, y), (to_x, to_y) in edges_of(outline_of(block)):
                if min(x, to_x) < middle < max(x, to_x):
                    heights.append(y + (to_y - y) * (middle - x) / (to_x - x))
            if heights:
                spans.append((min(heights), max(heights)))
        size += (right - left) * length_together(spans)
    return size


def length_together(spans):
    """How long spans (low, high) are together, what is in several once."""
    total, reached = Fraction(0), None
    for low, high in sorted(spans):
        if reached is None or low > reached:
            reached = low
        if high > reached:
            total, reached = total + high - reached, high
    return total


def grid_block(asker, number):
    """A block with corners on a small grid, so that much of it meets others just at their bounds."""
    while True:
        spots = {(asker.randint(0, 5), asker.randint(0, 5)) for _ in range(asker.choice((3, 4, 4, 6)))}
        if asker.random() < 0.5:
            (a, b), (c, d) = asker.sample([(x, y) for x in range(6) for y in range(6)], 2)
            spots = {(a, b), (a, d), (c, b), (c, d)}
        outline = hull_of(sorted(spots), asker.random() < 0.5)
        if len(outline) > 2:
            shift = asker.randrange(len(outline))
            outline = outline[shift:] + outline[:shift]
            marks = "".join(asker.choice("lrbe-") for _ in outline)
            return ("strip", number, tuple(whole(x, y) for x, y in outline), marks)


def hull_of(spots, keeps_straight):
    """The outline round sorted pairs, to the left; keeps_straight: also with corners that go straight on."""
    def half(rows):
        found = []
        for at in rows:
            while len(found) > 1:
                turn = off_edge((found[-2], found[-1]), at)
                if turn > 0 or (turn == 0 and keeps_straight):
                    break
                found.pop()
            found.append(at)
        return found
    under, over = half(spots), half(spots[::-1])
    if all(off_edge((spots[0], spots[-1]), at) == 0 for at in spots):
        return []
    return under[:-1] + over[:-1]


def is_bounded(*numbers):
    return all(abs(one.numerator) <= 9999 and one.denominator <= 65 for one in numbers)


def some_path(asker, many, arcs):
    """A path of so many pieces, arcs among them by that chance, within the bounds of what is handed in."""
    units = [(a, b) for a in range(-65, 66) for b in range(-65, 66) if a * a + b * b == 65 * 65]
    x, y = Fraction(asker.randint(-9, 9)), Fraction(asker.randint(-9, 9))
    start, pieces = point(x, y), []
    while len(pieces) < many:
        (a, b), (c, d) = asker.choice(units), asker.choice(units)
        length = Fraction(asker.randint(1, 13), asker.choice((1, 1, 2)))
        mx, my = x + length * a / 65, y + length * b / 65
        if asker.random() >= arcs:
            if is_bounded(mx, my):
                pieces.append(side(mx, my))
                x, y = mx, my
        else:
            to_x, to_y = mx + length * c / 65, my + length * d / 65
            if is_bounded(mx, my, to_x, to_y) and (to_x, to_y) != (x, y):
                pieces.append(arc(mx, my, to_x, to_y, asker.choice(("left", "right"))))
                x, y = to_x, to_y
    return (start, tuple(pieces))


def some_paths(seed, many):
    """Some such paths, the same for the same seed."""
    asker = random.Random(seed)
    return [some_path(asker, asker.randint(1, 7), asker.choice((0, 0, 0.3, 0.7))) for _ in range(many)]


def flat(thing):
    """All lists in a thing, at every depth."""
    if isinstance(thing, (list, tuple)):
        if isinstance(thing, list):
            yield thing
        for each in thing:
            yield from flat(each)


class Kinds(unittest.TestCase):
    """Checks that hold for the very kinds: True is no number, a list no tuple."""

    def assert_number(self, thing):
        self.assertIs(type(thing), int)

    def assert_truth(self, thing, asked):
        self.assertIs(type(thing), bool)
        self.assertIs(thing, asked)

    def assert_fraction(self, thing):
        self.assertIs(type(thing), tuple)
        self.assertEqual(len(thing), 2)
        self.assert_number(thing[0])
        self.assert_number(thing[1])
        self.assertGreaterEqual(thing[1], 1)
        self.assertEqual(math.gcd(thing[0], thing[1]), 1)

    def assert_vector(self, thing):
        self.assertIs(type(thing), tuple)
        self.assertEqual(len(thing), 2)
        self.assert_fraction(thing[0])
        self.assert_fraction(thing[1])

    def assert_is_fraction(self, thing, asked):
        """thing is the fraction that Python's own asked is."""
        self.assert_fraction(thing)
        self.assertEqual(thing, (asked.numerator, asked.denominator))

    def assert_is_vector(self, thing, x, y):
        """thing is the vector of which Python's own x and y are the parts."""
        self.assert_vector(thing)
        self.assert_is_fraction(thing[0], x)
        self.assert_is_fraction(thing[1], y)

    def assert_unit(self, thing):
        self.assert_vector(thing)
        x, y = pair(thing)
        self.assertEqual(x * x + y * y, 1)

    def assert_units(self, thing, asked):
        """thing is the list of the units that are those pairs."""
        self.assertIs(type(thing), list)
        for each in thing:
            self.assert_unit(each)
        self.assertEqual([pair(each) for each in thing], asked)

    def assert_path(self, thing):
        self.assertIs(type(thing), tuple)
        self.assertEqual(len(thing), 2)
        self.assert_vector(thing[0])
        self.assertIs(type(thing[1]), tuple)
        for piece in thing[1]:
            self.assertIs(type(piece), tuple)
            self.assertIs(type(piece[0]), str)
            self.assertIn((piece[0], len(piece)), [("side", 2), ("arc", 4)])
            for each in piece[1:3]:
                self.assert_vector(each)
            if piece[0] == "arc":
                self.assertIs(type(piece[3]), str)
                self.assertIn(piece[3], ("left", "right"))

    def assert_block(self, thing):
        self.assertIs(type(thing), tuple)
        self.assertEqual(len(thing), 4)
        word, number, corners, marks = thing
        self.assertIs(type(word), str)
        self.assert_number(number)
        self.assertIs(type(corners), tuple)
        self.assertGreaterEqual(len(corners), 3)
        for corner in corners:
            self.assert_vector(corner)
        self.assertIs(type(marks), str)
        self.assertEqual(len(marks), len(corners))
        self.assertLessEqual(set(marks), set("lrbe-"))

    def assert_row(self, thing):
        """thing is a tuple (block, edge, begin, end)."""
        self.assertIs(type(thing), tuple)
        self.assertEqual(len(thing), 4)
        self.assert_number(thing[0])
        self.assert_number(thing[1])
        self.assert_vector(thing[2])
        self.assert_vector(thing[3])
        self.assertNotEqual(thing[2], thing[3])

    def assert_rows(self, thing, asked):
        """thing is the list of those tuples (block, edge, begin, end)."""
        self.assertIs(type(thing), list)
        for each in thing:
            self.assert_row(each)
        self.assertEqual(thing, asked)

    def assert_paths(self, thing, asked):
        """thing is the list of those paths."""
        self.assertIs(type(thing), list)
        for each in thing:
            self.assert_path(each)
        self.assertEqual(thing, asked)

"""Fractions: tuples (n, d) of whole numbers, d at least 1, in lowest terms."""


def is_number(thing):
    """Whether thing is a whole number; True and False are none."""
    return isinstance(thing, int) and not isinstance(thing, bool)


def common_divisor(one, other):
    """The greatest common divisor of two numbers that aren't both 0, above 0."""
    one, other = abs(one), abs(other)
    while other != 0:
        one, other = other, one % other
    return one


def is_fraction(thing):
    """Whether thing is a fraction, of any size."""
    if not isinstance(thing, tuple) or len(thing) != 2:
        return False
    n, d = thing
    if not is_number(n) or not is_number(d) or d < 1:
        return False
    return common_divisor(n, d) == 1


def fraction(n, d):
    """The fraction n / d, of two numbers, d not 0."""
    # Without this, n / 0 would go on unseen as a tuple that is no fraction.
    assert d != 0, "a fraction's second number is 0"
    divisor = common_divisor(n, d)
    if d < 0:
        divisor = -divisor
    return (n // divisor, d // divisor)


def added(one, other):
    """The sum of two fractions."""
    return fraction(one[0] * other[1] + other[0] * one[1], one[1] * other[1])


def taken(one, other):
    """The one fraction less the other."""
    return fraction(one[0] * other[1] - other[0] * one[1], one[1] * other[1])


def times(one, other):
    """The one fraction times the other."""
    return fraction(one[0] * other[0], one[1] * other[1])


def over(one, other):
    """The one fraction over the other, which is not 0."""
    return fraction(one[0] * other[1], one[1] * other[0])


def compared(one, other):
    """-1, 0 or 1, as the one fraction is less than, like or greater than the other."""
    first = one[0] * other[1]
    second = other[0] * one[1]
    if first < second:
        return -1
    if first > second:
        return 1
    return 0


def whole_root(square):
    """The greatest number whose square is not above square, a number from 0 on."""
    if square == 0:
        return 0
    # Newton's steps fall to the root only from a begin that is not below it.
    guess = 1 << ((square.bit_length() + 1) // 2)
    better = (guess + square // guess) // 2
    while better < guess:
        guess = better
        better = (guess + square // guess) // 2
    return guess


def root_of(one):
    """The fraction from 0 on whose square the one is, or None."""
    n, d = one
    if n < 0:
        return None
    # In lowest terms a fraction is a square only where both its numbers are.
    top, bottom = whole_root(n), whole_root(d)
    if top * top != n or bottom * bottom != d:
        return None
    return (top, bottom)

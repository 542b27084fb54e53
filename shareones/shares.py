"""Fractions (top, bottom) in lowest terms, and shares: those from (0, 1) to (1, 1)."""


def is_number(thing):
    """Tell whether a thing is a whole number."""
    # Python counts True and False among its whole numbers; the document does not.
    return isinstance(thing, int) and not isinstance(thing, bool)


def is_within(thing, least, greatest):
    """Tell whether a thing is a whole number from least to greatest."""
    return is_number(thing) and least <= thing <= greatest


def common_divisor(one, other):
    """Tell the greatest common divisor of two numbers, above 0 whatever their signs are."""
    one = abs(one)
    other = abs(other)
    while other > 0:
        one, other = other, one % other
    # All numbers divide two noughts; 1 is told then, so that dividing by it never fails.
    return max(one, 1)


def fraction(top, bottom):
    """Tell top by bottom, bottom not 0, as a fraction."""
    divisor = common_divisor(top, bottom)
    if bottom < 0:
        divisor = -divisor
    return (top // divisor, bottom // divisor)


def plus(one, other):
    """Tell the sum of two fractions."""
    return fraction(one[0] * other[1] + other[0] * one[1], one[1] * other[1])


def minus(one, other):
    """Tell one fraction less the other."""
    return fraction(one[0] * other[1] - other[0] * one[1], one[1] * other[1])


def times(one, other):
    """Tell the product of two fractions."""
    return fraction(one[0] * other[0], one[1] * other[1])


def before(one, other):
    """Tell whether one fraction is less than the other."""
    return one[0] * other[1] < other[0] * one[1]


def is_fraction(thing):
    """Tell whether a thing is a tuple (top, bottom) in lowest terms, bottom above 0."""
    if not isinstance(thing, tuple) or len(thing) != 2:
        return False
    top, bottom = thing
    if not is_number(top) or not is_number(bottom):
        return False
    return bottom > 0 and common_divisor(top, bottom) == 1


def is_share(thing):
    """Tell whether a thing is a fraction from (0, 1) to (1, 1)."""
    return is_fraction(thing) and 0 <= thing[0] <= thing[1]

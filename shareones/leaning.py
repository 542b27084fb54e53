"""How far two rows of one length lean on one another."""

from shareones.errors import NoSuch
from shareones.rows import LONGEST, both, is_row, ones, refuse_unlike


def overlap(one, other):
    """Tell how many places have 1 in both rows."""
    return ones(both(one, other))


def lean(one, other):
    """Tell the length times the overlap, less the product of how many ones both rows have."""
    return len(one) * overlap(one, other) - ones(one) * ones(other)


def leans(one, other):
    """Tell the leans of one and the other told late, for each lateness below the length."""
    refuse_unlike([one, other])
    length = len(one)
    due = ones(one) * ones(other)
    places = [at for at in range(length) if one[at] == 1]
    # Making each late row would take several times as long. A place below 0 counts
    # from the end, which is just where a late row goes on.
    return [length * sum([other[at - by] for at in places]) - due for by in range(length)]


def parting(one, other):
    """Tell the least lateness of the other for which the two do not lean, None where there is none."""
    found = leans(one, other)
    if 0 not in found:
        return None
    return found.index(0)


def overlap_ends(n, a, b):
    """Tell the least and the greatest overlap of two rows of n bits with a and b ones."""
    return (max(0, a + b - n), min(a, b))


def lean_ends(n, a, b):
    """Tell the least and the greatest lean that two rows of n bits with a and b ones may have."""
    least, greatest = overlap_ends(n, a, b)
    return (n * least - a * b, n * greatest - a * b)


def leaning_rows(n, a, b, met):
    """Tell a pair of rows of n bits with a and b ones whose overlap is met."""
    least, greatest = overlap_ends(n, a, b)
    if not 1 <= n <= LONGEST or not least <= met <= greatest:
        raise NoSuch("no two rows are of this length and have so many ones and this overlap")
    one = (1,) * a + (0,) * (n - a)
    other = (1,) * met + (0,) * (a - met) + (1,) * (b - met) + (0,) * (n - a - b + met)
    return (one, other)


def shows_rows(n, a, b, met, thing):
    """Tell whether a thing is a pair of rows of n bits with a and b ones whose overlap is met."""
    if not isinstance(thing, tuple) or len(thing) != 2:
        return False
    one, other = thing
    if not is_row(one) or not is_row(other) or len(one) != n or len(other) != n:
        return False
    return ones(one) == a and ones(other) == b and overlap(one, other) == met

"""How far a part of a row may be off what the row's share tells of it."""

from shareones.makers import round_of, row_below, top_of, values_of
from shareones.rows import ones
from shareones.shares import before, fraction


def offs_by(row, many, length):
    """Tell the list of what the first n bits are off n times many by length, times length: below 0 for too few."""
    offs = [0]
    for bit in row:
        offs.append(offs[-1] + length * bit - many)
    return offs


def offs_of(row):
    """Tell the list of what the first n bits are off the row's share, times its length, for n from 0 on."""
    return offs_by(row, ones(row), len(row))


def worst_part(row):
    """Tell (off, n): by what the first n bits are off at the most, and the least such n."""
    sizes = [abs(off) for off in offs_of(row)]
    worst = max(sizes)
    return (fraction(worst, len(row)), sizes.index(worst))


def worst_stretch(row):
    """Tell (off, begin, end): by what the bits from begin to ahead of end are off at the most, the least such pair."""
    offs = offs_of(row)
    least = min(offs)
    greatest = max(offs)
    # A stretch is the worst one just where it leads from the one of these two to the other.
    begin = min(offs.index(least), offs.index(greatest))
    end = max(offs.index(least), offs.index(greatest))
    return (fraction(greatest - least, len(row)), begin, end)


def worst_of(maker):
    """Tell (off, k, n): the worst part of all rows of a maker over a round, the least such k, and its n."""
    numbers = values_of(maker, round_of(maker))
    worst = ((0, 1), 0, 0)
    for k in range(top_of(maker) + 1):
        off, n = worst_part(row_below(numbers, k))
        if before(worst[0], off):
            worst = (off, k, n)
    return worst


def last_beyond(off, n, length, e):
    """Tell the last number of bits, n and whole rounds, whose share is more than e off, 0 where there is none."""
    top, bottom = e
    # However many rounds pass the ones are off by as much as those of the first n bits.
    last = (off * bottom - 1) // (top * length)
    if last < n:
        return 0
    return last - (last - n) % length


def beats_for(row, e):
    """Tell the least number of bits from which on, of the row told again and again, the share is at most e off."""
    sizes = [abs(off) for off in offs_of(row)]
    if max(sizes) == 0:
        return 1
    # An e of nought is beyond the bounds, but nothing is to be raised for it: no number is such a one.
    if e[0] == 0:
        return None
    return 1 + max([last_beyond(sizes[n], n, len(row), e) for n in range(len(row))])

"""Rows: tuples of 1 to 4,096 bits, and what comes of them place by place."""

from shareones.errors import Unlike
from shareones.shares import fraction, is_within

LONGEST = 4096


def is_bit(thing):
    """Tell whether a thing is the number 0 or 1."""
    return is_within(thing, 0, 1)


def is_row(thing):
    """Tell whether a thing is a row."""
    if not isinstance(thing, tuple) or not 1 <= len(thing) <= LONGEST:
        return False
    return all(is_bit(bit) for bit in thing)


def refuse_unlike(rows):
    """Refuse a list of rows that are not all of one length."""
    if len({len(row) for row in rows}) > 1:
        raise Unlike("these rows are not all of one length")


def ones(row):
    """Tell how many ones a row has."""
    return sum(row)


def share_of(row):
    """Tell the share of ones in a row."""
    return fraction(ones(row), len(row))


def turned(row):
    """Tell the row whose bits are all the other ones."""
    return tuple(1 - bit for bit in row)


def both(one, other):
    """Tell the row with 1 where both rows have 1."""
    refuse_unlike([one, other])
    return tuple(a & b for a, b in zip(one, other))


def either(one, other):
    """Tell the row with 1 where one of the rows or both have 1."""
    refuse_unlike([one, other])
    return tuple(a | b for a, b in zip(one, other))


def oneof(one, other):
    """Tell the row with 1 where just one of the rows has 1."""
    refuse_unlike([one, other])
    return tuple(a ^ b for a, b in zip(one, other))


def pick(by, one, other):
    """Tell the row of one's bits where by has 1, and of other's bits elsewhere."""
    refuse_unlike([by, one, other])
    return tuple(a if bit == 1 else b for bit, a, b in zip(by, one, other))


def round_late(row, by):
    """Tell the row that comes so many places late, what leaves it at the end coming in at the begin."""
    return tuple(row[(at - by) % len(row)] for at in range(len(row)))


def behind(row, ahead):
    """Tell the bits of ahead and then those of row, as many as row has."""
    return (ahead + row)[:len(row)]


def again(row, many):
    """Tell the row so many times, one behind the other."""
    return row * many

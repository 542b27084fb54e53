"""Makers: tuples that go round and tell a number at each beat, and the rows that come from them."""

from shareones.rows import LONGEST, share_of
from shareones.shares import before, common_divisor, fraction, is_within, minus

MOST_AROUND = 3


def is_table(thing):
    """Tell whether a thing is what the numbers of a table may be."""
    if not isinstance(thing, tuple) or not 1 <= len(thing) <= 64:
        return False
    return all(is_within(number, 0, 63) for number in thing)


def is_plain(thing):
    """Tell whether a thing is a maker that has no other one in it."""
    if not isinstance(thing, tuple):
        return False
    match thing:
        case ("counter", size, step, start):
            if not is_within(size, 1, 64) or not is_within(step, 1, size):
                return False
            return common_divisor(step, size) == 1 and is_within(start, 0, size - 1)
        case ("turned", wide, start):
            return is_within(wide, 1, 6) and is_within(start, 0, (1 << wide) - 1)
        case ("register", wide, taps, start):
            if not is_within(wide, 2, 6) or not is_within(taps, 1 << (wide - 1), (1 << wide) - 1):
                return False
            return is_within(start, 1, (1 << wide) - 1)
        case ("table", numbers):
            return is_table(numbers)
        case _:
            return False


def is_around(thing):
    """Tell whether a thing is a slow, slip or late, whatever stands in it for its maker."""
    if not isinstance(thing, tuple) or len(thing) != 3:
        return False
    word, many, inner = thing
    if word == "late":
        return is_within(many, 0, 64)
    return (word == "slow" or word == "slip") and is_within(many, 1, 64)


def is_maker(thing):
    """Tell whether a thing is a maker."""
    inner = thing
    around = 0
    while is_around(inner):
        inner = inner[2]
        around += 1
    if around > MOST_AROUND or not is_plain(inner):
        return False
    # Just that of the whole one: within a slip there may be a longer one.
    return round_of(thing) <= LONGEST


def counter_round(size, step, start):
    """Tell the list of a counter's numbers over a round."""
    return [(start + step * t) % size for t in range(size)]


def last_for_first(number, wide):
    """Tell the number that has the wide bits of this one, the last for the first."""
    told = 0
    for at in range(wide):
        told = 2 * told + (number >> at & 1)
    return told


def size_of(wide):
    """Tell how many numbers have at most so many bits."""
    # A wide below 0 is beyond the bounds, but nothing is to be raised for it.
    return 1 << max(wide, 0)


def turned_round(wide, start):
    """Tell the list of a turned one's numbers over a round."""
    size = size_of(wide)
    return [last_for_first((start + t) % size, wide) for t in range(size)]


def odd_ones(number):
    """Tell 1 where a number has an odd number of ones, else 0."""
    odd = 0
    while number > 0:
        odd = odd ^ (number & 1)
        number = number >> 1
    return odd


def held_round(wide, taps, start):
    """Tell the list of what a register holds over a round."""
    size = size_of(wide)
    told = []
    held = start
    # Beyond the bounds of taps and start it may never hold start again; this ends it then, too.
    while len(told) < size and (held != start or not told):
        told.append(held)
        held = 2 * held % size + odd_ones(held & taps)
    return told


def plain_round(maker):
    """Tell the list of the numbers over a round of a maker that has no other one in it."""
    match maker:
        case ("counter", size, step, start):
            return counter_round(size, step, start)
        case ("turned", wide, start):
            return turned_round(wide, start)
        case ("register", wide, taps, start):
            return held_round(wide, taps, start)
        case ("table", numbers):
            return list(numbers)


def round_of(maker):
    """Tell behind how many beats a maker tells the same numbers again."""
    match maker:
        case ("slow", many, inner):
            return many * round_of(inner)
        case ("slip", many, inner):
            length = round_of(inner)
            return many * length // common_divisor(length, many + 1)
        case ("late", by, inner):
            return round_of(inner)
        case _:
            return len(plain_round(maker))


def innermost(maker):
    """Tell the maker within all of slow, slip, late."""
    while maker[0] in ("slow", "slip", "late"):
        maker = maker[2]
    return maker


def top_of(maker):
    """Tell a number that is above all numbers of a maker."""
    match innermost(maker):
        case ("counter", size, step, start):
            return size
        case ("table", numbers):
            return max(numbers, default=-1) + 1
        case ("turned", wide, start):
            return size_of(wide)
        case ("register", wide, taps, start):
            return size_of(wide)


def inner_beat(maker, t):
    """Tell a beat at which the innermost maker tells what the whole one tells at beat t."""
    while maker[0] in ("slow", "slip", "late"):
        word, many, inner = maker
        # A many of 0 is beyond the bounds, but nothing is to be raised for it.
        if word == "slow":
            t = t // max(many, 1)
        elif word == "slip":
            t = t + t // max(many, 1)
        else:
            # This may be below 0. All kinds go round by round there, too, so it leads to
            # the number that the same beat of a later round has.
            t = t - many
        maker = inner
    return t


def values_at(maker, beats):
    """Tell the list of a maker's numbers at the beats of a list."""
    # A plain maker without numbers is beyond the bounds, but nothing is to be raised for it.
    numbers = plain_round(innermost(maker)) or [0]
    return [numbers[inner_beat(maker, t) % len(numbers)] for t in beats]


def value_at(maker, t):
    """Tell the number of a maker at beat t."""
    return values_at(maker, [t])[0]


def values_of(maker, beats):
    """Tell the list of a maker's numbers at the first so many beats."""
    return values_at(maker, list(range(beats)))


def row_below(numbers, k):
    """Tell the row with 1 where a list's number is below k."""
    return tuple(1 if number < k else 0 for number in numbers)


def row_of(maker, k, beats):
    """Tell the row of so many bits with 1 at the beats at which a maker's number is below k."""
    return row_below(values_of(maker, beats), k)


def share_told(maker, k):
    """Tell the share of the ones over a round in the row of a maker and k."""
    return share_of(row_of(maker, k, round_of(maker)))


def times_come(numbers):
    """Tell the dict of how often each number, or tuple of numbers, comes in a list."""
    times_of = {}
    for number in numbers:
        times_of[number] = times_of.get(number, 0) + 1
    return times_of


def is_even(maker):
    """Tell whether all numbers from 0 to below its top come equally often in a maker's round."""
    numbers = values_of(maker, round_of(maker))
    times_of = times_come(numbers)
    top = top_of(maker)
    return all(times_of.get(number, 0) * top == len(numbers) for number in range(top))


def counts_below(numbers, greatest):
    """Tell the list of how many numbers of a list are below k, for k from 0 to greatest."""
    times_of = times_come(numbers)
    counts = [0]
    for number in range(greatest):
        counts.append(counts[-1] + times_of.get(number, 0))
    return counts


def gap(one, other):
    """Tell how far two fractions are from one another."""
    top, bottom = minus(one, other)
    return (abs(top), bottom)


def nearest(maker, share):
    """Tell the least k up to a maker's top whose share told is nearest to the share."""
    numbers = values_of(maker, round_of(maker))
    gaps = [gap(fraction(count, len(numbers)), share) for count in counts_below(numbers, top_of(maker))]
    best = 0
    for k in range(len(gaps)):
        if before(gaps[k], gaps[best]):
            best = k
    return best

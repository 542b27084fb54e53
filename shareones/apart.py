"""Which makers are apart, so that their numbers meet in all pairs just alike, and which lean on one another."""

from shareones.leaning import overlap
from shareones.makers import counts_below, is_maker, round_of, row_of, share_told, times_come, values_of
from shareones.rows import LONGEST
from shareones.shares import common_divisor, is_fraction, is_number, is_within, times

GREATEST_K = 64
MOST_SLIP = 64


def common_round(makers):
    """Tell the least common multiple of the makers' rounds."""
    common = 1
    for maker in makers:
        length = round_of(maker)
        common = common * length // common_divisor(common, length)
    return common


def pairs_met(one, other):
    """Tell the rising list of (a, b, many): how often in a common round one tells a and other b at one beat."""
    length = common_round([one, other])
    met = times_come(list(zip(values_of(one, length), values_of(other, length))))
    return [(a, b, met[(a, b)]) for a, b in sorted(met)]


def all_apart(makers):
    """Tell whether over a common round each tuple of numbers is met just as often as it must."""
    length = common_round(makers)
    told = [values_of(maker, length) for maker in makers]
    times_of = [times_come(numbers) for numbers in told]
    scale = 1
    for maker in makers[1:]:
        scale = scale * length
    met = times_come(list(zip(*told)))
    # Asking those that are met is enough: where they are all met rightly their products
    # make up the whole, and of the others none is left that would have to be met.
    return all(met[numbers] * scale == times_due(times_of, numbers) for numbers in met)


def times_due(times_of, numbers):
    """Tell the product of the times that each of the numbers comes, one of each maker."""
    due = 1
    for at, number in enumerate(numbers):
        due = due * times_of[at][number]
    return due


def met_and_due(one, other, k, other_k):
    """Tell the overlap of two makers' rows over a common round, and the one that their shares tell."""
    length = common_round([one, other])
    met = overlap(row_of(one, k, length), row_of(other, other_k, length))
    return (met, times((length, 1), times(share_told(one, k), share_told(other, other_k))))


def first_leaning(one, other):
    """Tell the least pair of k of one and k of other whose rows lean, None where no such rows do."""
    length = common_round([one, other])
    told = values_of(one, length)
    other_told = values_of(other, length)
    counts = counts_below(told, GREATEST_K)
    other_counts = counts_below(other_told, GREATEST_K)
    for k in range(GREATEST_K + 1):
        met = counts_below([b for a, b in zip(told, other_told) if a < k], GREATEST_K)
        for other_k in range(GREATEST_K + 1):
            if met[other_k] * length != counts[k] * other_counts[other_k]:
                return (k, other_k)
    return None


def apart(one, other):
    """Tell ("apart", common round), or ("lean", k, l, met, due) of the least k and l that show it."""
    leaning = first_leaning(one, other)
    if leaning is None:
        return ("apart", common_round([one, other]))
    k, other_k = leaning
    met, due = met_and_due(one, other, k, other_k)
    return ("lean", k, other_k, met, due)


def shows_lean(one, other, thing):
    """Tell whether a thing is ("lean", k, l, met, due), all of it right, met not the one due."""
    if not isinstance(thing, tuple) or len(thing) != 5 or thing[0] != "lean":
        return False
    word, k, other_k, met, due = thing
    if not is_within(k, 0, GREATEST_K) or not is_within(other_k, 0, GREATEST_K):
        return False
    if not is_number(met) or not is_fraction(due):
        return False
    return (met, due) == met_and_due(one, other, k, other_k) and due != (met, 1)


def slowed(one, other):
    """Tell the other maker so slow that it is apart from the one."""
    return ("slow", round_of(one), other)


def slipped(one, other):
    """Tell the other maker slipping so that it is apart from the one, where both rounds are the same."""
    return ("slip", round_of(one), other)


def parted_by(one, other):
    """Tell the least many by which the other maker slips and is apart from the one, None where there is none."""
    for many in range(1, MOST_SLIP + 1):
        slip = ("slip", many, other)
        if is_maker(slip) and common_round([one, slip]) <= LONGEST and all_apart([one, slip]):
            return many
    return None

"""Formulas of rows that are turned, met and picked, and the shares that come of them."""

from shareones.apart import all_apart, common_round
from shareones.makers import row_of, share_told
from shareones.rows import both, either, oneof, pick, refuse_unlike, share_of, turned
from shareones.shares import is_within, minus, plus, times

SIDES = {"less": 1, "both": 2, "either": 2, "oneof": 2, "pick": 3}
GREATEST_INPUT = 5
MOST_PARTS = 24
DEEPEST = 8
WHOLE = (1, 1)
NOUGHT = (0, 1)


def is_part(thing):
    """Tell whether a thing is as a part of a formula is, whatever stands for its sides."""
    if not isinstance(thing, tuple) or not thing or not isinstance(thing[0], str):
        return False
    if thing[0] == "in":
        return len(thing) == 2 and is_within(thing[1], 0, GREATEST_INPUT)
    return thing[0] in SIDES and len(thing) == 1 + SIDES[thing[0]]


def sides_of(part):
    """Tell the tuple of the formulas that stand in a part."""
    if part[0] == "in":
        return ()
    return part[1:]


def is_formula(thing):
    """Tell whether a thing is a formula."""
    waiting = [(thing, 1)]
    parts = 0
    while waiting:
        part, depth = waiting.pop()
        parts += 1
        if parts > MOST_PARTS or depth > DEEPEST or not is_part(part):
            return False
        waiting.extend([(side, depth + 1) for side in sides_of(part)])
    return True


def parts_of(formula):
    """Tell the list of all parts as they are written from the left, the formula itself first."""
    parts = [formula]
    for side in sides_of(formula):
        parts.extend(parts_of(side))
    return parts


def inputs_of(formula):
    """Tell the rising list of the i's of a formula."""
    return sorted({part[1] for part in parts_of(formula) if part[0] == "in"})


def thing_at(things, i, other):
    """Tell the thing at place i of a list, the other one where the list is too short."""
    # A list that is too short is beyond the bounds, but nothing is to be raised for it.
    return things[i] if 0 <= i < len(things) else other


def row_within(formula, rows):
    """Tell the row that comes of a formula, rows being by i and of one length."""
    match formula:
        case ("in", i):
            return rows[i]
        case ("less", f):
            return turned(row_within(f, rows))
        case ("both", f, g):
            return both(row_within(f, rows), row_within(g, rows))
        case ("either", f, g):
            return either(row_within(f, rows), row_within(g, rows))
        case ("oneof", f, g):
            return oneof(row_within(f, rows), row_within(g, rows))
        case ("pick", f, g, h):
            return pick(row_within(f, rows), row_within(g, rows), row_within(h, rows))


def row_by(formula, rows):
    """Tell the row that comes of a list of rows by a formula; all of them must be of one length."""
    refuse_unlike(rows)
    noughts = (0,) * len(thing_at(rows, 0, ()))
    return row_within(formula, {i: thing_at(rows, i, noughts) for i in inputs_of(formula)})


def either_share(x, y):
    """Tell x + y - x * y."""
    return minus(plus(x, y), times(x, y))


def oneof_share(x, y):
    """Tell x + y - 2 * x * y."""
    return minus(either_share(x, y), times(x, y))


def pick_share(x, y, z):
    """Tell x * y + (1 - x) * z."""
    return plus(times(x, y), times(minus(WHOLE, x), z))


def plain_share(formula, shares):
    """Tell what comes of the shares step by step, as if no two sides leaned on one another."""
    match formula:
        case ("in", i):
            return thing_at(shares, i, NOUGHT)
        case ("less", f):
            return minus(WHOLE, plain_share(f, shares))
        case ("both", f, g):
            return times(plain_share(f, shares), plain_share(g, shares))
        case ("either", f, g):
            return either_share(plain_share(f, shares), plain_share(g, shares))
        case ("oneof", f, g):
            return oneof_share(plain_share(f, shares), plain_share(g, shares))
        case ("pick", f, g, h):
            return pick_share(plain_share(f, shares), plain_share(g, shares), plain_share(h, shares))


def bits_at(at, many):
    """Tell the row of the bits at one place of the numbers from 0 to below many."""
    return tuple(number >> at & 1 for number in range(many))


def weight_of(choice, rows, shares):
    """Tell the product of the shares of the i's whose row has 1 at the choice's place, and of 1 less the others'."""
    weight = WHOLE
    for i in rows:
        share = thing_at(shares, i, NOUGHT)
        weight = times(weight, share if rows[i][choice] == 1 else minus(WHOLE, share))
    return weight


def true_share(formula, shares):
    """Tell the share that a formula's row has where the rows of all its i's are all apart."""
    inputs = inputs_of(formula)
    many = 1 << len(inputs)
    # Each place of these rows is one choice of a bit for each i.
    rows = {i: bits_at(at, many) for at, i in enumerate(inputs)}
    told = NOUGHT
    for choice, bit in enumerate(row_within(formula, rows)):
        if bit == 1:
            told = plus(told, weight_of(choice, rows, shares))
    return told


def inputs_met(part):
    """Tell the rising list of the i's that stand in two sides of a part or more."""
    sides = [inputs_of(side) for side in sides_of(part)]
    return [i for i in inputs_of(part) if len([side for side in sides if i in side]) > 1]


def first_lean(formula):
    """Tell (number, inputs) of the first part with an i in two of its sides or more, None where there is none."""
    for number, part in enumerate(parts_of(formula)):
        inputs = inputs_met(part)
        if inputs:
            return (number, inputs)
    return None


def answer(formula, makers, ks):
    """Tell (share, due, fits): of the makers' rows, what their shares tell, and whether the makers are all apart."""
    length = common_round(makers)
    rows = [row_of(maker, k, length) for maker, k in zip(makers, ks)]
    shares = [share_told(maker, k) for maker, k in zip(makers, ks)]
    return (share_of(row_by(formula, rows)), true_share(formula, shares), all_apart(makers))

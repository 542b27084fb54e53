"""Things that the tests hand in: all short rows, some long ones, and odd things for the checkers."""

from itertools import product

PLAIN = (0, 1, 2, -1, 3, 4096, 10 ** 5000, -(10 ** 5000), True, False, None, "", "0", "1", "01", "(1, 2)")

LONG_ROWS = (
    (0,) * 4096,
    (1,) * 4096,
    (1, 0) * 2048,
    (1,) + (0,) * 4095,
    tuple(1 if at * at % 11 < 4 else 0 for at in range(4096)),
)


def rows_of(length):
    return list(product((0, 1), repeat=length))


def short_rows(most):
    return [row for length in range(1, most + 1) for row in rows_of(length)]


def nested(inner, depth, kind):
    for _ in range(depth):
        inner = kind([inner])
    return inner


def odd_things():
    """Things of every kind that a checker may be asked of: plain ones, pairs of them, and deep ones."""
    things = list(PLAIN) + [(), []]
    for one, other in product(PLAIN, repeat=2):
        things += [(one, other), [one, other]]
    for one in PLAIN:
        things += [(one,), [one], (one, 1, 1), [one, 1, 1], (1, 1, one), (one, [1]), ((1, 2), one)]
        things += [nested(one, 12, tuple), nested(one, 12, list)]
    things += [((1, 0), [0, 1]), ([1, 0], (0, 1)), [(1, 0), (0, 1)], ((1, 0), (0, 1)), ((1, 0), (0, 1), (1, 1))]
    return things


def is_plain_number(thing):
    return type(thing) is int


def kinds(thing):
    """The thing with each part's kind beside it, so that True and 1, or a tuple and a list, differ."""
    if isinstance(thing, (tuple, list)):
        return (type(thing).__name__, [kinds(part) for part in thing])
    return (type(thing).__name__, thing)


UNEVEN_TABLE = tuple(at * at % 61 for at in range(64))

# Each kind of plain maker at both ends of its bounds and between them.
PLAIN_MAKERS = (
    ("counter", 1, 1, 0), ("counter", 2, 1, 1), ("counter", 5, 3, 4), ("counter", 12, 7, 0), ("counter", 63, 62, 5),
    ("counter", 64, 1, 0), ("counter", 64, 63, 63), ("turned", 1, 0), ("turned", 1, 1), ("turned", 3, 5),
    ("turned", 6, 0), ("turned", 6, 63), ("register", 2, 2, 1), ("register", 2, 3, 3), ("register", 3, 5, 6),
    ("register", 4, 9, 1), ("register", 4, 15, 15), ("register", 6, 32, 1), ("register", 6, 33, 1),
    ("register", 6, 63, 63), ("table", (0,)), ("table", (63,)), ("table", (0, 1)), ("table", (5, 0, 5, 2, 2)),
    ("table", (3, 0, 1, 2, 3, 1, 2, 0)), ("table", (63,) * 64), ("table", UNEVEN_TABLE),
)


def around(makers, manys, bys):
    told = [(word, many, maker) for word in ("slow", "slip") for many in manys for maker in makers]
    return told + [("late", by, maker) for by in bys for maker in makers]


# Two of these are within the bounds although a maker within them has a longer round than a maker may have.
DEEP_MAKERS = (
    ("slow", 3, ("slow", 2, ("counter", 5, 2, 1))), ("slip", 2, ("slip", 3, ("counter", 12, 5, 3))),
    ("late", 64, ("late", 3, ("slip", 4, ("turned", 3, 1)))), ("slow", 2, ("late", 3, ("slip", 5, ("counter", 6, 5, 2)))),
    ("slip", 5, ("slow", 3, ("late", 7, ("register", 3, 5, 1)))), ("late", 9, ("slip", 3, ("slow", 5, ("table", (4, 0, 4))))),
    ("slip", 1, ("slow", 64, ("slow", 2, ("counter", 64, 1, 0)))),
    ("slip", 2, ("slow", 64, ("slow", 32, ("table", (7, 0, 7))))),
    ("slip", 7, ("slow", 64, ("slow", 64, ("table", (1,))))), ("slow", 13, ("slow", 5, ("counter", 63, 2, 1))),
    ("slow", 1, ("slip", 1, ("late", 0, ("counter", 1, 1, 0)))),
)
MAKERS = PLAIN_MAKERS + tuple(around(PLAIN_MAKERS, (1, 2, 5, 64), (0, 1, 64))) + DEEP_MAKERS
SMALL_MAKERS = (
    ("counter", 1, 1, 0), ("counter", 2, 1, 0), ("counter", 3, 2, 1), ("counter", 4, 3, 2), ("counter", 6, 1, 0),
    ("turned", 2, 1), ("register", 2, 3, 1), ("register", 3, 5, 1), ("table", (2, 0, 2)), ("table", (0, 0, 1, 1)),
    ("table", (0, 1, 1, 0)), ("slow", 2, ("counter", 2, 1, 0)), ("slip", 2, ("counter", 4, 1, 0)),
    ("slip", 4, ("turned", 2, 0)), ("late", 3, ("counter", 5, 2, 0)), ("slow", 3, ("late", 1, ("table", (1, 1, 4)))),
    ("slip", 1, ("counter", 2, 1, 1)),
)


def with_other_parts(thing, others):
    """The thing with each of its parts, at every depth, put out for each of the others, left out, and told twice."""
    told = list(others) + [list(thing), thing + (thing[-1],)] + [thing[:at] + thing[at + 1:] for at in range(len(thing))]
    for at, part in enumerate(thing):
        changed = with_other_parts(part, others) if isinstance(part, tuple) and part else list(others)
        told += [thing[:at] + (new,) + thing[at + 1:] for new in changed]
    return told


def chain(depth):
    """A formula with so many within one another."""
    told = ("in", 0)
    for _ in range(depth - 1):
        told = ("less", told)
    return told


def comb(parts):
    """A formula of so many parts, an odd number, few of them within one another."""
    sides = [("in", at % 6) for at in range(parts // 2 + 1)]
    while len(sides) > 1:
        sides = sides[2:] + [("both", sides[0], sides[1])]
    return sides[0]

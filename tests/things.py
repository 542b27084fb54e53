"""Things that the tests hand in: all short rows, some long ones, and odd things for the checkers."""

from itertools import product

PLAIN = (0, 1, 2, -1, 3, 4096, 10 ** 5000, -(10 ** 5000), True, False, None, "", "0", "1", "01", "(1, 2)")

LONG_ROWS = (
    (0,) * 4096,
    (1,) * 4096,
    (1, 0) * 2048,
    (1,) + (0,) * 4095,
    tuple(1 if at * at % 11 < 4 else 0 for at in range(4096)),
)


def rows_of(length):
    return list(product((0, 1), repeat=length))


def short_rows(most):
    return [row for length in range(1, most + 1) for row in rows_of(length)]


def nested(inner, depth, kind):
    for _ in range(depth):
        inner = kind([inner])
    return inner


def odd_things():
    """Things of every kind that a checker may be asked of: plain ones, pairs of them, and deep ones."""
    things = list(PLAIN) + [(), []]
    for one, other in product(PLAIN, repeat=2):
        things += [(one, other), [one, other]]
    for one in PLAIN:
        things += [(one,), [one], (one, 1, 1), [one, 1, 1], (1, 1, one), (one, [1]), ((1, 2), one)]
        things += [nested(one, 12, tuple), nested(one, 12, list)]
    things += [((1, 0), [0, 1]), ([1, 0], (0, 1)), [(1, 0), (0, 1)], ((1, 0), (0, 1)), ((1, 0), (0, 1), (1, 1))]
    return things


def is_plain_number(thing):
    return type(thing) is int


def kinds(thing):
    """The thing with each part's kind beside it, so that True and 1, or a tuple and a list, differ."""
    if isinstance(thing, (tuple, list)):
        return (type(thing).__name__, [kinds(part) for part in thing])
    return (type(thing).__name__, thing)

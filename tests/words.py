"""What the document says of makers, word by word and as slowly as it reads, for the tests to compare with."""

from collections import Counter
from fractions import Fraction
from functools import cache
from itertools import product
from math import gcd, lcm, prod


def whole(thing, least, greatest):
    return type(thing) is int and least <= thing <= greatest


def plain_maker_by_the_words(thing):
    word, *parts = thing
    if word == "counter" and len(parts) == 3:
        size, step, start = parts
        return whole(size, 1, 64) and whole(step, 1, size) and gcd(step, size) == 1 and whole(start, 0, size - 1)
    if word == "turned" and len(parts) == 2:
        wide, start = parts
        return whole(wide, 1, 6) and whole(start, 0, 2 ** wide - 1)
    if word == "register" and len(parts) == 3:
        wide, taps, start = parts
        return whole(wide, 2, 6) and whole(taps, 2 ** (wide - 1), 2 ** wide - 1) and whole(start, 1, 2 ** wide - 1)
    if word == "table" and len(parts) == 1:
        (numbers,) = parts
        return type(numbers) is tuple and 1 <= len(numbers) <= 64 and all(whole(one, 0, 63) for one in numbers)
    return False


def within_the_words(thing, left):
    """Whether it is as a maker is, with at most so many of slow, slip, late, whatever the rounds."""
    if type(thing) is not tuple or not thing or type(thing[0]) is not str:
        return False
    if thing[0] not in ("slow", "slip", "late"):
        return plain_maker_by_the_words(thing)
    if left == 0 or len(thing) != 3 or not whole(thing[1], 0 if thing[0] == "late" else 1, 64):
        return False
    return within_the_words(thing[2], left - 1)


def maker_by_the_words(thing):
    return within_the_words(thing, 3) and round_by_the_words(thing) <= 4096


@cache
def held_by_the_words(maker, t):
    _, wide, taps, held = maker
    for _ in range(t):
        odd = bin(held & taps).count("1") % 2
        held = held * 2 % 2 ** wide + odd
    return held


@cache
def round_by_the_words(maker):
    word = maker[0]
    if word == "counter":
        return maker[1]
    if word == "turned":
        return 2 ** maker[1]
    if word == "register":
        return next(beats for beats in range(1, 65) if held_by_the_words(maker, beats) == maker[3])
    if word == "table":
        return len(maker[1])
    inner = round_by_the_words(maker[2])
    if word == "slow":
        return maker[1] * inner
    if word == "slip":
        return maker[1] * inner // gcd(inner, maker[1] + 1)
    return inner


def value_by_the_words(maker, t):
    word = maker[0]
    if word == "counter":
        return (maker[3] + maker[2] * t) % maker[1]
    if word == "turned":
        wide, start = maker[1:]
        bits = format((start + t) % 2 ** wide, "b").zfill(wide)
        return int(bits[::-1], 2)
    if word == "register":
        return held_by_the_words(maker, t % round_by_the_words(maker))
    if word == "table":
        return maker[1][t % len(maker[1])]
    many, inner = maker[1:]
    if word == "slow":
        return value_by_the_words(inner, t // many)
    if word == "slip":
        return value_by_the_words(inner, t + t // many)
    return value_by_the_words(inner, (t - many) % round_by_the_words(inner))


def values_by_the_words(maker, beats):
    return [value_by_the_words(maker, t) for t in range(beats)]


def top_by_the_words(maker):
    if maker[0] in ("slow", "slip", "late"):
        return top_by_the_words(maker[2])
    if maker[0] == "counter":
        return maker[1]
    if maker[0] == "table":
        return max(maker[1]) + 1
    return 2 ** maker[1]


def shares_by_the_words(maker, greatest):
    """The shares told for k from 0 to greatest, as Fractions."""
    numbers = values_by_the_words(maker, round_by_the_words(maker))
    return [Fraction(len([one for one in numbers if one < k]), len(numbers)) for k in range(greatest + 1)]


def common_by_the_words(makers):
    return lcm(*[round_by_the_words(maker) for maker in makers])


def all_apart_by_the_words(makers):
    length = common_by_the_words(makers)
    told = [values_by_the_words(maker, length) for maker in makers]
    comes = [Counter(numbers) for numbers in told]
    met = Counter(zip(*told))
    for numbers in product(*comes):
        due = prod(comes[at][number] for at, number in enumerate(numbers))
        if met[numbers] * length ** (len(makers) - 1) != due:
            return False
    return True


def leans_by_the_words(one, other, greatest=64):
    """All (k, l, met, due), rising, where two makers' rows lean over a common round; due as a Fraction."""
    length = common_by_the_words([one, other])
    pairs = list(zip(values_by_the_words(one, length), values_by_the_words(other, length)))
    shares, other_shares = shares_by_the_words(one, greatest), shares_by_the_words(other, greatest)
    found = []
    for k in range(greatest + 1):
        below = Counter(b for a, b in pairs if a < k)
        for other_k in range(greatest + 1):
            met = sum(many for b, many in below.items() if b < other_k)
            due = length * shares[k] * other_shares[other_k]
            if met != due:
                found.append((k, other_k, met, due))
    return found


def as_tuple(told):
    return (told.numerator, told.denominator)

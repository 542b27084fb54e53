import unittest
from collections import Counter
from fractions import Fraction

from shareones.makers import is_even, is_maker, nearest, round_of, row_of, share_told, top_of, value_at, values_of
from things import MAKERS, PLAIN, PLAIN_MAKERS, SMALL_MAKERS, UNEVEN_TABLE, around, kinds, nested, odd_things
from things import with_other_parts
from words import as_tuple, maker_by_the_words, round_by_the_words, shares_by_the_words, top_by_the_words
from words import value_by_the_words, values_by_the_words

C64 = ("counter", 64, 1, 0)


class IsMaker(unittest.TestCase):
    def assert_makers(self, things):
        for thing in things:
            self.assertIs(is_maker(thing), True, thing)

    def assert_no_makers(self, things):
        for thing in things:
            self.assertIs(is_maker(thing), False, thing)

    def test_all_kinds(self):
        self.assert_makers(MAKERS + SMALL_MAKERS)

    def test_counters(self):
        self.assert_makers([("counter", 1, 1, 0), ("counter", 64, 1, 0), ("counter", 64, 63, 63), ("counter", 9, 8, 8)])
        self.assert_no_makers([("counter", 0, 1, 0), ("counter", 65, 1, 0), ("counter", 1, 0, 0), ("counter", 1, 2, 0)])
        self.assert_no_makers([("counter", 1, 1, 1), ("counter", 1, 1, -1), ("counter", 9, 1, 9), ("counter", 9, 1, -1)])
        self.assert_no_makers([("counter", 9, 0, 0), ("counter", 9, 10, 0), ("counter", 9, -1, 0), ("counter", 9, 9, 0)])
        self.assert_no_makers([("counter", 9, 3, 0), ("counter", 64, 62, 0), ("counter", 15, 10, 0)])

    def test_all_counters_of_short_rounds(self):
        for size in range(-1, 9):
            for step in range(-1, 10):
                for start in range(-1, 10):
                    thing = ("counter", size, step, start)
                    self.assertIs(is_maker(thing), maker_by_the_words(thing), thing)

    def test_turned(self):
        self.assert_makers([("turned", 1, 0), ("turned", 1, 1), ("turned", 6, 0), ("turned", 6, 63)])
        self.assert_no_makers([("turned", 0, 0), ("turned", 7, 0), ("turned", 1, 2), ("turned", 6, 64), ("turned", 6, -1)])
        self.assert_no_makers([("turned", -1, 0), ("turned", 10 ** 5000, 0), ("turned", 3, 8)])

    def test_registers(self):
        self.assert_makers([("register", 2, 2, 1), ("register", 2, 3, 3), ("register", 6, 32, 1), ("register", 6, 63, 63)])
        self.assert_no_makers([("register", 1, 1, 1), ("register", 7, 64, 1), ("register", 2, 1, 1), ("register", 2, 4, 1)])
        self.assert_no_makers([("register", 6, 31, 1), ("register", 6, 64, 1), ("register", 6, 32, 0)])
        self.assert_no_makers([("register", 6, 32, 64), ("register", 2, 2, 4), ("register", 2, 2, 0)])
        self.assert_no_makers([("register", 10 ** 5000, 32, 1), ("register", -1, 0, 0), ("register", 0, 0, 0)])

    def test_tables(self):
        self.assert_makers([("table", (0,)), ("table", (63,)), ("table", (0,) * 64), ("table", tuple(range(64)))])
        self.assert_no_makers([("table", ()), ("table", (0,) * 65), ("table", (64,)), ("table", (-1,)), ("table", [0])])
        self.assert_no_makers([("table", (0, 64)), ("table", (0,) * 63 + (True,)), ("table", (0, (0,))), ("table", 0)])
        self.assert_no_makers([("table", "0"), ("table", None), ("table", 0, 1), ("table",)])

    def test_around(self):
        for word in ("slow", "slip"):
            self.assert_makers([(word, 1, C64), (word, 64, C64)])
            self.assert_no_makers([(word, 0, C64), (word, 65, ("counter", 2, 1, 0)), (word, -1, C64), (word, True, C64)])
        self.assert_makers([("late", 0, C64), ("late", 64, C64)])
        self.assert_no_makers([("late", -1, C64), ("late", 65, C64), ("late", False, C64), ("late", True, C64)])

    def test_three_within_and_four(self):
        small = ("counter", 2, 1, 0)
        for first in ("slow", "slip", "late"):
            for second in ("slow", "slip", "late"):
                for third in ("slow", "slip", "late"):
                    three = (first, 1, (second, 2, (third, 1, small)))
                    self.assertIs(is_maker(three), True)
                    self.assert_no_makers([(word, 1, three) for word in ("slow", "slip", "late")])

    def test_rounds_of_just_4096_and_beyond(self):
        just = [("slow", 64, C64), ("slip", 64, C64), ("late", 64, ("slow", 64, C64)), ("slow", 1, ("slow", 64, C64))]
        self.assert_makers(just + [("slow", 8, ("slow", 8, C64)), ("slow", 13, ("slow", 5, ("counter", 63, 1, 0)))])
        self.assertEqual([round_of(maker) for maker in just], [4096] * 4)
        beyond = ("slow", 2, ("slow", 50, ("counter", 41, 1, 0)))
        self.assertEqual(round_of(beyond), 4100)
        self.assert_no_makers([beyond, ("slow", 2, ("slow", 64, C64)), ("late", 3, beyond), ("slow", 64, ("slow", 64, C64))])
        self.assert_no_makers([("slip", 2, ("slow", 64, C64)), ("slip", 3, ("slow", 64, ("slow", 64, C64)))])

    def test_a_maker_within_may_have_a_longer_round(self):
        longer = ("slow", 64, ("slow", 2, C64))
        self.assertEqual((round_of(longer), round_of(("slip", 1, longer))), (8192, 4096))
        self.assert_no_makers([longer, ("slip", 2, longer), ("slip", 3, longer), ("slow", 1, longer), ("late", 1, longer)])
        self.assert_makers([("slip", 1, longer)])
        self.assert_makers([("slip", 2, ("slow", 64, ("slow", 32, ("counter", 3, 1, 0))))])

    def test_words_and_parts(self):
        self.assert_no_makers([("count", 4, 1, 0), ("Counter", 4, 1, 0), ("counter ", 4, 1, 0), ("", 4, 1, 0), ()])
        self.assert_no_makers([("counter", 4, 1), ("counter", 4, 1, 0, 0), ("turned", 2), ("turned", 2, 0, 0), ("slow", C64)])
        self.assert_no_makers([("register", 2, 3), ("register", 2, 3, 1, 1), ("slow", 2), ("slow", 2, C64, C64), "counter"])
        self.assert_no_makers([list(C64), ("slow", 2, list(C64)), ["slow", 2, C64], ("slow", 2, None), ("slow", 2, "slow")])
        self.assert_no_makers([(["counter"], 4, 1, 0), (("counter",), 4, 1, 0), (None, 4, 1, 0), (0, 4, 1, 0)])

    def test_true_and_false_are_no_numbers(self):
        self.assert_no_makers([("counter", True, 1, 0), ("counter", 1, True, 0), ("counter", 1, 1, False)])
        self.assert_no_makers([("turned", True, 0), ("turned", 1, False), ("turned", 1, True), ("register", 2, 2, True)])
        self.assert_no_makers([("table", (True,)), ("table", (False, 1)), ("late", False, C64)])

    def test_asked_of_anything(self):
        self.assert_no_makers(odd_things())
        self.assert_no_makers([nested(C64, 10, tuple), nested(C64, 11, list), nested(("slow", 1), 10, tuple)])
        deep = C64
        for _ in range(11):
            deep = ("slow", 1, deep)
        self.assert_no_makers([deep])

    def test_asked_of_what_is_nearly_a_maker(self):
        others = PLAIN + (63, 64, 65, (), [], (0,), [0], "counter", "slow", "late", ("counter", 2, 1, 0), ["counter", 2, 1, 0])
        for maker in SMALL_MAKERS + PLAIN_MAKERS[:-2] + (("slow", 2, ("slip", 3, ("late", 1, ("counter", 2, 1, 0)))),):
            for thing in with_other_parts(maker, others):
                self.assertIs(is_maker(thing), maker_by_the_words(thing), thing)


class Rounds(unittest.TestCase):
    def test_by_hand(self):
        self.assertEqual(round_of(("counter", 12, 5, 3)), 12)
        self.assertEqual(round_of(("turned", 6, 5)), 64)
        self.assertEqual(round_of(("table", (4, 4, 4))), 3)
        self.assertEqual(round_of(("register", 4, 9, 1)), 15)
        self.assertEqual(round_of(("register", 4, 8, 1)), 4)
        self.assertEqual(round_of(("register", 4, 8, 5)), 2)
        self.assertEqual(round_of(("register", 4, 8, 15)), 1)
        self.assertEqual(round_of(("slow", 3, ("counter", 4, 1, 0))), 12)
        self.assertEqual(round_of(("slip", 3, ("counter", 4, 1, 0))), 3)
        self.assertEqual(round_of(("slip", 5, ("counter", 4, 1, 0))), 10)
        self.assertEqual(round_of(("slip", 4, ("counter", 4, 1, 0))), 16)
        self.assertEqual(round_of(("late", 64, ("slow", 3, ("counter", 4, 1, 0)))), 12)

    def test_of_all(self):
        for maker in MAKERS + SMALL_MAKERS:
            self.assertEqual(kinds(round_of(maker)), kinds(round_by_the_words(maker)), maker)

    def test_of_all_registers(self):
        for wide in range(2, 7):
            for taps in range(2 ** (wide - 1), 2 ** wide):
                for start in range(1, 2 ** wide, 7):
                    maker = ("register", wide, taps, start)
                    self.assertIs(is_maker(maker), True)
                    self.assertEqual(round_of(maker), round_by_the_words(maker), maker)

    def test_the_numbers_come_again_round_by_round(self):
        for maker in MAKERS + SMALL_MAKERS:
            length = round_by_the_words(maker)
            for t in range(0, length, max(1, length // 40)):
                first = value_at(maker, t)
                for many in (1, 2, 1000):
                    self.assertEqual(value_at(maker, t + many * length), first, maker)

    def test_tops(self):
        for maker in MAKERS + SMALL_MAKERS:
            self.assertEqual(kinds(top_of(maker)), kinds(top_by_the_words(maker)), maker)
        self.assertEqual([top_of(maker) for maker in PLAIN_MAKERS[:3]], [1, 2, 5])
        self.assertEqual(top_of(("turned", 6, 0)), 64)
        self.assertEqual(top_of(("register", 6, 63, 1)), 64)
        self.assertEqual(top_of(("table", (5, 0, 63, 2))), 64)
        self.assertEqual(top_of(("table", (0,))), 1)
        self.assertEqual(top_of(("slow", 2, ("slip", 3, ("late", 4, ("table", (8, 3)))))), 9)


class Values(unittest.TestCase):
    def test_by_hand(self):
        told = {
            ("counter", 5, 3, 4): [4, 2, 0, 3, 1, 4, 2, 0],
            ("counter", 1, 1, 0): [0, 0, 0],
            ("turned", 3, 0): [0, 4, 2, 6, 1, 5, 3, 7, 0],
            ("turned", 3, 6): [3, 7, 0, 4, 2, 6, 1, 5, 3],
            ("turned", 1, 1): [1, 0, 1],
            ("register", 3, 4, 1): [1, 2, 4, 1, 2],
            ("register", 3, 6, 1): [1, 2, 5, 3, 7, 6, 4, 1],
            ("register", 2, 3, 1): [1, 3, 2, 1],
            ("table", (7, 0, 7)): [7, 0, 7, 7, 0, 7, 7],
            ("slow", 2, ("counter", 3, 1, 0)): [0, 0, 1, 1, 2, 2, 0, 0],
            ("slow", 1, ("counter", 3, 1, 0)): [0, 1, 2, 0],
            ("slip", 2, ("counter", 5, 1, 0)): [0, 1, 3, 4, 1, 2, 4, 0, 2, 3, 0, 1],
            ("slip", 1, ("counter", 5, 1, 0)): [0, 2, 4, 1, 3, 0],
            ("late", 1, ("counter", 4, 1, 0)): [3, 0, 1, 2, 3],
            ("late", 0, ("counter", 4, 1, 0)): [0, 1, 2, 3, 0],
            ("late", 64, ("counter", 3, 1, 0)): [2, 0, 1, 2],
            ("late", 1, ("slow", 2, ("counter", 3, 1, 0))): [2, 0, 0, 1, 1, 2, 2],
            ("slow", 2, ("late", 1, ("counter", 3, 1, 0))): [2, 2, 0, 0, 1, 1, 2],
            ("late", 1, ("slip", 2, ("counter", 5, 1, 0))): [3, 0, 1, 3, 4, 1, 2, 4, 0, 2, 3],
            ("slip", 2, ("late", 1, ("counter", 5, 1, 0))): [4, 0, 2, 3, 0, 1, 3, 4, 1, 2, 4],
        }
        for maker, numbers in told.items():
            self.assertEqual(values_of(maker, len(numbers)), numbers, maker)
            self.assertEqual([value_at(maker, t) for t in range(len(numbers))], numbers, maker)

    def test_of_all(self):
        for maker in MAKERS + SMALL_MAKERS:
            numbers = values_by_the_words(maker, 140)
            self.assertEqual(kinds(values_of(maker, 140)), kinds(numbers), maker)
            self.assertEqual(kinds([value_at(maker, t) for t in range(0, 140, 9)]), kinds(numbers[::9]), maker)

    def test_of_three_around_one_another(self):
        plain = (("counter", 4, 3, 1), ("register", 3, 6, 1), ("table", (0, 3, 3, 1, 2, 6)))
        for three in around(around(around(plain, (1, 3, 4), (2,)), (2, 5), (0, 64)), (1, 3), (7,)):
            self.assertEqual(round_of(three), round_by_the_words(three), three)
            self.assertEqual(values_of(three, 50), values_by_the_words(three, 50), three)

    def test_beats_to_a_thousand_million(self):
        self.assertEqual(value_at(("counter", 64, 63, 63), 10 ** 9), (63 + 63 * 10 ** 9) % 64)
        self.assertEqual(value_at(("register", 6, 33, 1), 10 ** 9), value_at(("register", 6, 33, 1), 10 ** 9 % 63))
        self.assertEqual(value_at(("slow", 64, ("counter", 63, 1, 0)), 10 ** 9), 10 ** 9 // 64 % 63)
        self.assertEqual(value_at(("slip", 64, ("counter", 63, 1, 0)), 10 ** 9), (10 ** 9 + 10 ** 9 // 64) % 63)
        for maker in MAKERS:
            for t in (10 ** 9, 10 ** 9 - 1, 987654321, 4096, 65536):
                self.assertEqual(kinds(value_at(maker, t)), kinds(value_by_the_words(maker, t)), maker)

    def test_one_beat_and_4096(self):
        for maker in PLAIN_MAKERS + (("slip", 64, C64), ("slow", 64, C64), ("late", 63, ("slow", 64, C64))):
            self.assertEqual(values_of(maker, 1), [value_by_the_words(maker, 0)])
            self.assertEqual(values_of(maker, 4096), values_by_the_words(maker, 4096))

    def test_numbers_are_below_the_top(self):
        for maker in MAKERS:
            self.assertLess(max(values_of(maker, min(round_of(maker), 500))), top_of(maker))


class Rows(unittest.TestCase):
    def test_by_hand(self):
        self.assertEqual(row_of(("counter", 5, 3, 4), 2, 7), (0, 0, 1, 0, 1, 0, 0))
        self.assertEqual(row_of(("turned", 2, 0), 1, 4), (1, 0, 0, 0))
        self.assertEqual(row_of(("table", (63,)), 63, 2), (0, 0))
        self.assertEqual(row_of(("table", (63,)), 64, 2), (1, 1))

    def test_of_all(self):
        for maker in MAKERS:
            numbers = values_by_the_words(maker, 70)
            for k in {0, 1, 3, top_by_the_words(maker) - 1, top_by_the_words(maker), 64}:
                due = tuple(int(number < k) for number in numbers)
                self.assertEqual(kinds(row_of(maker, k, 70)), kinds(due), (maker, k))

    def test_no_ones_at_0_and_ones_alone_from_the_top_on(self):
        for maker in MAKERS:
            self.assertEqual(row_of(maker, 0, 90), (0,) * 90)
            for k in range(top_of(maker), 65, 9):
                self.assertEqual(row_of(maker, k, 90), (1,) * 90)
        self.assertEqual(row_of(C64, 0, 4096), (0,) * 4096)
        self.assertEqual(row_of(C64, 64, 4096), (1,) * 4096)
        self.assertEqual(row_of(C64, 1, 1), (1,))


class Shares(unittest.TestCase):
    def test_by_hand(self):
        self.assertEqual(share_told(("counter", 12, 5, 3), 8), (2, 3))
        self.assertEqual(share_told(("table", (5, 0, 5, 2, 2)), 3), (3, 5))
        self.assertEqual(share_told(("table", (5, 0, 5, 2, 2)), 2), (1, 5))
        self.assertEqual(share_told(("register", 3, 6, 1), 4), (3, 7))
        self.assertEqual(share_told(("register", 3, 6, 1), 1), (0, 1))
        self.assertEqual(share_told(("slip", 1, ("counter", 2, 1, 0)), 1), (1, 1))

    def test_of_all(self):
        for maker in PLAIN_MAKERS + SMALL_MAKERS:
            for k, due in enumerate(shares_by_the_words(maker, 64)):
                self.assertEqual(kinds(share_told(maker, k)), kinds(as_tuple(due)), (maker, k))

    def test_at_0_the_top_and_64(self):
        for maker in MAKERS:
            self.assertEqual(share_told(maker, 0), (0, 1))
            self.assertEqual(share_told(maker, top_of(maker)), (1, 1))
            self.assertEqual(share_told(maker, 64), (1, 1))
            self.assertNotEqual(share_told(maker, max(values_of(maker, round_of(maker)))), (1, 1))

    def test_the_same_over_many_rounds(self):
        for maker in SMALL_MAKERS:
            for k in range(top_of(maker) + 1):
                for many in (1, 2, 7):
                    row = row_of(maker, k, many * round_of(maker))
                    self.assertEqual(share_told(maker, k), as_tuple(Fraction(row.count(1), len(row))))


def even_by_the_words(maker):
    times = Counter(values_by_the_words(maker, round_by_the_words(maker)))
    return sorted(times) == list(range(top_by_the_words(maker))) and len(set(times.values())) == 1


class Even(unittest.TestCase):
    def test_by_hand(self):
        for maker in (C64, ("turned", 6, 9), ("table", (0,)), ("table", (1, 0)), ("table", (2, 0, 1, 1, 2, 0))):
            self.assertIs(is_even(maker), True)
            self.assertIs(is_even(("slow", 3, maker)), True)
            self.assertIs(is_even(("late", 3, maker)), True)
        for maker in (("table", (1,)), ("table", (0, 0, 1)), ("table", (0, 2)), ("table", UNEVEN_TABLE)):
            self.assertIs(is_even(maker), False)
        self.assertIs(is_even(("slip", 1, ("counter", 2, 1, 0))), False)
        self.assertIs(is_even(("slip", 2, ("counter", 2, 1, 0))), True)
        self.assertIs(is_even(("slip", 64, C64)), True)

    def test_of_all(self):
        for maker in MAKERS + SMALL_MAKERS:
            self.assertIs(is_even(maker), even_by_the_words(maker), maker)

    def test_no_register_is(self):
        for wide in range(2, 7):
            for taps in range(2 ** (wide - 1), 2 ** wide):
                self.assertIs(is_even(("register", wide, taps, 1)), False)

    def test_where_it_is_the_share_is_k_by_top(self):
        found = [maker for maker in MAKERS + SMALL_MAKERS if is_even(maker)]
        self.assertGreater(len(found), 100)
        for maker in found:
            top = top_of(maker)
            for k in {0, 1, top // 2, top - 1, top}:
                self.assertEqual(share_told(maker, k), as_tuple(Fraction(k, top)))


def nearest_by_the_words(shares, share):
    return min(range(len(shares)), key=lambda k: (abs(shares[k] - Fraction(*share)), k))


class Nearest(unittest.TestCase):
    def test_by_hand(self):
        five = ("counter", 5, 3, 4)
        self.assertEqual([nearest(five, share) for share in ((0, 1), (1, 5), (3, 5), (1, 1))], [0, 1, 3, 5])
        self.assertEqual([nearest(five, share) for share in ((1, 10), (101, 1000), (99, 1000), (9, 10))], [0, 1, 0, 4])
        # Its shares are 0, 1/5, 1/5, 3/5, 3/5, 3/5, 1: the least of equal ones goes.
        gaps = ("table", (5, 0, 5, 2, 2))
        told = [nearest(gaps, share) for share in ((0, 1), (1, 5), (2, 5), (401, 1000), (3, 5), (4, 5), (81, 100), (1, 1))]
        self.assertEqual(told, [0, 1, 1, 3, 3, 3, 6, 6])
        self.assertEqual(nearest(("table", (63,)), (1, 2)), 0)
        self.assertEqual(nearest(("table", (63,)), (501, 1000)), 64)
        self.assertEqual(nearest(("counter", 1, 1, 0), (1, 2)), 0)
        self.assertEqual(nearest(("register", 3, 6, 1), (0, 1)), 0)

    def test_at_and_around_and_just_between_all_shares(self):
        for maker in PLAIN_MAKERS + SMALL_MAKERS:
            shares = shares_by_the_words(maker, top_by_the_words(maker))
            points = set(shares) | {(one + other) / 2 for one, other in zip(shares, shares[1:])}
            for point in sorted(points)[:40]:
                for off in (Fraction(0), Fraction(1, 10 ** 6), Fraction(-1, 10 ** 6)):
                    if 0 <= point + off <= 1:
                        share = as_tuple(point + off)
                        self.assertEqual(kinds(nearest(maker, share)), kinds(nearest_by_the_words(shares, share)))

    def test_of_a_round_of_4096(self):
        maker = ("slip", 64, ("turned", 6, 3))
        self.assertEqual(nearest(maker, (1, 2)), 32)
        self.assertEqual(nearest(maker, (1, 128)), 0)
        self.assertEqual(nearest(maker, (1, 1)), 64)


class BeyondTheBounds(unittest.TestCase):
    def test_no_error_is_raised(self):
        beyond = [("counter", 65, 1, 0), ("counter", 4, 2, 9), ("turned", 7, 0), ("register", 3, 3, 1), ("register", 3, 1, 9)]
        beyond += [("register", 3, 4, 0), ("table", ()), ("table", (64, 0)), ("slow", 0, C64), ("slip", 0, C64)]
        beyond += [("late", 65, C64), ("late", 0, ("late", 0, ("late", 0, ("late", 0, C64)))), ("slow", 65, C64)]
        beyond += [("turned", wide, start) for wide in (0, -1, -2, -9) for start in (-1, 0, 1)]
        beyond += [("register", wide, taps, start) for wide in (1, 0, -1, -9) for taps in (-1, 0, 1) for start in (-1, 0, 1)]
        beyond += [("slow", 2, ("turned", -1, 0)), ("late", 1, ("register", -1, 1, 1)), ("slip", 2, ("register", -2, 1, 1))]
        beyond += [("counter", 0, 1, 0), ("counter", -1, 1, 0), ("slow", -1, C64), ("slip", -1, C64), ("late", -1, C64)]
        for maker in beyond:
            self.assertIs(is_maker(maker), False)
            for told in (round_of(maker), top_of(maker), value_at(maker, 10 ** 9 + 1), nearest(maker, (1, 2))):
                self.assertIs(type(told), int)
            self.assertEqual(len(values_of(maker, 4097)), 4097)
            self.assertEqual(len(row_of(maker, 65, 4097)), 4097)
            self.assertIs(type(is_even(maker)), bool)
            share_told(maker, 65)


if __name__ == "__main__":
    unittest.main()

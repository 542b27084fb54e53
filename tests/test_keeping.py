import unittest
from fractions import Fraction
from itertools import product
from math import gcd

from shareones.apart import common_round, slowed
from shareones.errors import NoOne, OnesError, Unlike
from shareones.keeping import Keeper, divided, held_for, kept, kept_round, rooted
from shareones.makers import round_of, row_of, share_told
from shareones.rows import again, both, ones, round_late, share_of
from things import LONG_ROWS, SMALL_MAKERS, kinds, rows_of, short_rows
from words import value_by_the_words


def kept_by_the_words(upper, lower, first):
    told = ()
    for at in range(len(upper)):
        own = told[at - 1] if at > 0 else first
        told += (upper[at] if lower[at] == 1 else own,)
    return told


def kept_round_by_the_words(upper, lower):
    """At each place upper's bit of the nearest place, it or one ahead of it round about, where lower has 1."""
    told = ()
    for at in range(len(upper)):
        back = next(back for back in range(len(lower)) if lower[at - back] == 1)
        told += (upper[at - back],)
    return told


def held_by_the_words(lower):
    told = []
    for at, bit in enumerate(lower):
        many = 0
        if bit == 1:
            many = next(many for many in range(1, len(lower) + 1) if lower[(at + many) % len(lower)] == 1)
        told.append(many)
    return told


class Kept(unittest.TestCase):
    def test_by_hand(self):
        upper, lower = (1, 0, 1, 0, 1, 1), (0, 1, 0, 1, 1, 0)
        self.assertEqual(kept(upper, lower, 0), (0, 0, 0, 0, 1, 1))
        self.assertEqual(kept(upper, lower, 1), (1, 0, 0, 0, 1, 1))
        self.assertEqual(kept_round(upper, lower), (1, 0, 0, 0, 1, 1))

    def test_rows_of_one_bit(self):
        for upper, lower, first in product((0, 1), repeat=3):
            self.assertEqual(kept((upper,), (lower,), first), (upper if lower == 1 else first,))
        self.assertEqual(kept_round((0,), (1,)), (0,))
        self.assertEqual(kept_round((1,), (1,)), (1,))

    def test_all_short_rows(self):
        for length in range(1, 6):
            for upper, lower in product(rows_of(length), repeat=2):
                for first in (0, 1):
                    self.assertEqual(kinds(kept(upper, lower, first)), kinds(kept_by_the_words(upper, lower, first)))
                if 1 in lower:
                    self.assertEqual(kinds(kept_round(upper, lower)), kinds(kept_round_by_the_words(upper, lower)))

    def test_a_lower_row_without_a_1_keeps_the_first(self):
        for upper in short_rows(5):
            for first in (0, 1):
                self.assertEqual(kept(upper, (0,) * len(upper), first), (first,) * len(upper))

    def test_a_single_1_at_the_first_place_and_at_the_last(self):
        for upper in short_rows(6):
            length = len(upper)
            begin, end = (1,) + (0,) * (length - 1), (0,) * (length - 1) + (1,)
            self.assertEqual(kept_round(upper, begin), (upper[0],) * length)
            self.assertEqual(kept_round(upper, end), (upper[-1],) * length)
            for first in (0, 1):
                self.assertEqual(kept(upper, begin, first), (upper[0],) * length)
                self.assertEqual(kept(upper, end, first), (first,) * (length - 1) + (upper[-1],))

    def test_of_ones_alone(self):
        for upper in short_rows(6):
            lower = (1,) * len(upper)
            self.assertEqual(kept(upper, lower, 0), upper)
            self.assertEqual(kept(upper, lower, 1), upper)
            self.assertEqual(kept_round(upper, lower), upper)

    def test_told_again_and_again_the_round_goes_on(self):
        for upper, lower in product(rows_of(5)[::3], rows_of(5)):
            if 1 in lower:
                long = kept(again(upper, 3), again(lower, 3), 1)
                self.assertEqual(kept_round(upper, lower), long[5:10])
                self.assertEqual(kept_round(upper, lower), long[10:])

    def test_told_late_it_is_kept_late(self):
        for upper, lower in product(rows_of(4), repeat=2):
            if 1 in lower:
                for by in range(5):
                    late = kept_round(round_late(upper, by), round_late(lower, by))
                    self.assertEqual(late, round_late(kept_round(upper, lower), by))

    def test_long_rows(self):
        upper = LONG_ROWS[-1]
        for lower in LONG_ROWS[1:] + ((0,) * 4095 + (1,),):
            self.assertEqual(kept(upper, lower, 1), kept_by_the_words(upper, lower, 1))
            self.assertEqual(kept_round(upper, lower), kept(upper, lower, upper[4095 - lower[::-1].index(1)]))

    def test_two_lengths_are_refused(self):
        for one, other in [((1,), (1, 1)), ((0, 1), (1,)), (LONG_ROWS[1], (1,) * 4095), ((1, 1, 1), (0, 0))]:
            for deed in (lambda: kept(one, other, 0), lambda: kept(one, other, 1), lambda: kept_round(one, other)):
                with self.assertRaises(OnesError) as caught:
                    deed()
                self.assertIs(type(caught.exception), Unlike)

    def test_no_1_is_refused(self):
        for upper in short_rows(4) + list(LONG_ROWS):
            with self.assertRaises(OnesError) as caught:
                kept_round(upper, (0,) * len(upper))
            self.assertIs(type(caught.exception), NoOne)

    def test_of_both_the_one_told_first_goes(self):
        with self.assertRaises(Unlike):
            kept_round((1, 1), (0, 0, 0))


class HeldFor(unittest.TestCase):
    def test_by_hand(self):
        self.assertEqual(held_for((0, 1, 0, 0, 1, 1)), [0, 3, 0, 0, 1, 2])
        self.assertEqual(held_for((1, 0, 0, 1)), [3, 0, 0, 1])
        self.assertEqual(held_for((1,)), [1])

    def test_all_short_rows(self):
        for lower in short_rows(9):
            if 1 in lower:
                self.assertEqual(kinds(held_for(lower)), kinds(held_by_the_words(lower)))
                self.assertEqual(sum(held_for(lower)), len(lower))

    def test_a_single_1_and_ones_alone(self):
        for length in (1, 2, 9, 4096):
            self.assertEqual(held_for((1,) + (0,) * (length - 1)), [length] + [0] * (length - 1))
            self.assertEqual(held_for((0,) * (length - 1) + (1,)), [0] * (length - 1) + [length])
            self.assertEqual(held_for((1,) * length), [1] * length)

    def test_no_1_is_refused(self):
        for length in (1, 2, 9, 4096):
            with self.assertRaises(OnesError) as caught:
                held_for((0,) * length)
            self.assertIs(type(caught.exception), NoOne)

    def test_the_ones_of_kept_round_are_its_sum_where_upper_has_1(self):
        for length in range(1, 7):
            for upper, lower in product(rows_of(length)[::3], rows_of(length)):
                if 1 in lower:
                    due = sum(many for many, bit in zip(held_for(lower), upper) if bit == 1)
                    self.assertEqual(ones(kept_round(upper, lower)), due)
        for upper, lower in product(LONG_ROWS, LONG_ROWS[1:]):
            due = sum(many for many, bit in zip(held_for(lower), upper) if bit == 1)
            self.assertEqual(ones(kept_round(upper, lower)), due)


class Quotient(unittest.TestCase):
    def assert_quotient(self, one, other):
        """Lower is a row of one, c one of other, over their common round."""
        length = common_round([one, other])
        for k, other_k in product((1, 2, 3, 64), (0, 1, 2, 4)):
            lower, c = row_of(one, k, length), row_of(other, other_k, length)
            if 1 in lower:
                self.assertEqual(share_of(kept_round(both(lower, c), lower)), share_told(other, other_k))

    def test_where_the_rounds_have_no_divisor_in_common(self):
        found = 0
        for one, other in product(SMALL_MAKERS, repeat=2):
            if gcd(round_of(one), round_of(other)) == 1:
                found += 1
                self.assert_quotient(one, other)
        self.assertGreater(found, 60)
        self.assert_quotient(("counter", 64, 27, 5), ("counter", 63, 5, 1))
        self.assert_quotient(("register", 6, 33, 1), ("turned", 6, 9))

    def test_where_the_other_one_is_slowed_by_the_former(self):
        for one, other in product(SMALL_MAKERS, repeat=2):
            self.assert_quotient(one, slowed(one, other))
        self.assert_quotient(("turned", 6, 0), slowed(("turned", 6, 0), ("turned", 6, 0)))

    def test_elsewhere_it_need_not_be(self):
        one = ("counter", 2, 1, 0)
        lower, c = row_of(one, 1, 4), row_of(one, 1, 4)
        self.assertEqual(share_of(kept_round(both(lower, c), lower)), (1, 1))
        self.assertEqual(share_told(one, 1), (1, 2))


def keeper_by_the_words(most, at, pairs):
    """(numbers told, ups lost, downs lost) of a Keeper that beats with all the pairs of bits."""
    told, ups, downs = [], 0, 0
    for pair in pairs:
        if pair == (1, 0):
            if at == most:
                ups += 1
            else:
                at += 1
        if pair == (0, 1):
            if at == 0:
                downs += 1
            else:
                at -= 1
        told.append(at)
    return told, ups, downs


PAIRS = [(0, 0), (0, 1), (1, 0), (1, 1)]


class Keepers(unittest.TestCase):
    def test_by_hand(self):
        keeper = Keeper(2, 1)
        self.assertEqual((keeper.at_now(), keeper.lost_now(), keeper.beats_now()), (1, (0, 0), 0))
        told = [keeper.beat(up, down) for up, down in [(1, 0), (1, 0), (1, 1), (0, 0), (0, 1), (0, 1), (0, 1), (0, 1)]]
        self.assertEqual(told, [2, 2, 2, 2, 1, 0, 0, 0])
        self.assertEqual((keeper.at_now(), keeper.lost_now(), keeper.beats_now()), (0, (1, 2), 8))

    def test_both_bits_at_once_at_each_end(self):
        for most in (1, 2, 64):
            for at in (0, most):
                keeper = Keeper(most, at)
                self.assertEqual((keeper.beat(1, 1), keeper.at_now(), keeper.lost_now()), (at, at, (0, 0)))
                self.assertEqual((keeper.beat(0, 0), keeper.at_now(), keeper.lost_now()), (at, at, (0, 0)))
                self.assertEqual(keeper.beats_now(), 2)

    def test_an_up_at_most_and_a_down_at_0_are_lost(self):
        for most in (1, 2, 64):
            full, empty = Keeper(most, most), Keeper(most, 0)
            for many in (1, 2, 3):
                self.assertEqual((full.beat(1, 0), full.lost_now()), (most, (many, 0)))
                self.assertEqual((empty.beat(0, 1), empty.lost_now()), (0, (0, many)))
            self.assertEqual((full.beat(0, 1), full.lost_now()), (most - 1, (3, 0)))
            self.assertEqual((empty.beat(1, 0), empty.lost_now()), (1, (0, 3)))

    def test_from_end_to_end(self):
        for most in (1, 2, 63, 64):
            keeper = Keeper(most, 0)
            self.assertEqual([keeper.beat(1, 0) for _ in range(most + 2)], list(range(1, most + 1)) + [most, most])
            self.assertEqual([keeper.beat(0, 1) for _ in range(most + 2)], list(range(most - 1, -1, -1)) + [0, 0])
            self.assertEqual(keeper.lost_now(), (2, 2))
            self.assertEqual(keeper.beats_now(), 2 * most + 4)

    def test_all_short_runs(self):
        for most in (1, 2, 3):
            for at in range(most + 1):
                for pairs in product(PAIRS, repeat=5):
                    keeper = Keeper(most, at)
                    told, ups, downs = keeper_by_the_words(most, at, pairs)
                    self.assertEqual(kinds([keeper.beat(*pair) for pair in pairs]), kinds(told))
                    self.assertEqual(kinds(keeper.at_now()), kinds(told[-1]))
                    self.assertEqual(kinds(keeper.lost_now()), kinds((ups, downs)))
                    self.assertEqual(kinds(keeper.beats_now()), kinds(5))

    def test_two_keepers_have_nothing_in_common(self):
        one, other = Keeper(3, 1), Keeper(3, 1)
        one.beat(1, 0)
        one.beat(1, 0)
        one.beat(1, 0)
        self.assertEqual((other.at_now(), other.lost_now(), other.beats_now()), (1, (0, 0), 0))
        other.beat(0, 1)
        self.assertEqual((one.at_now(), one.lost_now(), one.beats_now()), (3, (1, 0), 3))

    def test_asking_changes_nothing(self):
        keeper = Keeper(1, 1)
        keeper.beat(1, 0)
        for _ in range(3):
            self.assertEqual((keeper.at_now(), keeper.lost_now(), keeper.beats_now()), (1, (1, 0), 1))

    def test_each_method_stands_in_the_class_itself(self):
        for name in ("beat", "at_now", "lost_now", "beats_now"):
            self.assertIn(name, vars(Keeper))


def fed_back_by_the_words(row, by, maker, most, at):
    """What divided tells; rooted where by is None."""
    out, fed, lost = [], [], [0, 0]
    for t, up in enumerate(row):
        out.append(int(value_by_the_words(maker, t) < at))
        beside = by[t] if by is not None else ([0] + out)[t]
        fed.append(int((out[t], beside) == (1, 1)))
        told, ups, downs = keeper_by_the_words(most, at, [(up, fed[t])])
        at = told[0]
        lost = [lost[0] + ups, lost[1] + downs]
    return (tuple(out), tuple(fed), at, tuple(lost))


LONG_BY = row_of(("counter", 63, 5, 1), 30, 4096)
KEEPERS = [(1, 0), (1, 1), (2, 1), (5, 0), (5, 5), (64, 0), (64, 64), (64, 30)]


class Divided(unittest.TestCase):
    def test_by_hand(self):
        told = divided((1, 1, 1, 1, 0, 0), (1, 0, 1, 1, 1, 1), ("table", (0, 1)), 2, 0)
        self.assertEqual(told, ((0, 0, 1, 1, 1, 0), (0, 0, 1, 1, 1, 0), 1, (0, 0)))
        told = divided((1, 1, 1), (0, 0, 0), ("table", (0,)), 1, 0)
        self.assertEqual(told, ((0, 1, 1), (0, 0, 0), 1, (2, 0)))

    def test_rows_of_one_bit(self):
        for up, beside, at in product((0, 1), repeat=3):
            told = divided((up,), (beside,), ("counter", 1, 1, 0), 1, at)
            self.assertEqual(told, fed_back_by_the_words((up,), (beside,), ("counter", 1, 1, 0), 1, at))
            self.assertEqual(told[:2], ((at,), (at & beside,)))

    def test_of_all(self):
        row, by = row_of(("register", 6, 33, 1), 20, 130), row_of(("counter", 7, 3, 2), 4, 130)
        for maker in SMALL_MAKERS + (("counter", 64, 27, 3), ("turned", 6, 5)):
            for most, at in KEEPERS:
                told = divided(row, by, maker, most, at)
                self.assertEqual(kinds(told), kinds(fed_back_by_the_words(row, by, maker, most, at)))

    def test_long_rows(self):
        for row in LONG_ROWS:
            told = divided(row, LONG_BY, ("turned", 6, 5), 64, 7)
            self.assertEqual(told, fed_back_by_the_words(row, LONG_BY, ("turned", 6, 5), 64, 7))

    def test_two_lengths_are_refused(self):
        for row, by in [((1,), (1, 0)), ((1, 0, 1), (1, 0)), (LONG_BY, LONG_BY[1:])]:
            with self.assertRaises(OnesError) as caught:
                divided(row, by, ("turned", 3, 0), 4, 2)
            self.assertIs(type(caught.exception), Unlike)

    def test_it_comes_near_the_quotient(self):
        length = 4032
        row, by = row_of(("counter", 64, 27, 5), 16, length), row_of(("counter", 63, 5, 1), 42, length)
        out, _, _, lost = divided(row, by, ("turned", 6, 0), 64, 24)
        self.assertEqual(lost, (0, 0))
        self.assertLess(abs(Fraction(sum(out), length) - Fraction(3, 8)), Fraction(1, 20))


class Rooted(unittest.TestCase):
    def test_by_hand(self):
        told = rooted((1, 1, 1, 1, 0, 0), ("table", (0,)), 2, 0)
        self.assertEqual(told, ((0, 1, 1, 1, 1, 1), (0, 0, 1, 1, 1, 1), 0, (0, 0)))
        self.assertEqual(rooted((0, 0), ("table", (0,)), 2, 1), ((1, 1), (0, 1), 0, (0, 0)))

    def test_rows_of_one_bit(self):
        for up, at in product((0, 1), repeat=2):
            told = rooted((up,), ("counter", 1, 1, 0), 1, at)
            self.assertEqual(told, ((at,), (0,), max(up, at), (up & at, 0)))

    def test_of_all(self):
        row = row_of(("register", 6, 33, 1), 20, 130)
        for maker in SMALL_MAKERS + (("counter", 64, 27, 3), ("turned", 6, 5)):
            for most, at in KEEPERS:
                told = rooted(row, maker, most, at)
                self.assertEqual(kinds(told), kinds(fed_back_by_the_words(row, None, maker, most, at)))

    def test_long_rows(self):
        for row in LONG_ROWS:
            told = rooted(row, ("turned", 6, 5), 64, 7)
            self.assertEqual(told, fed_back_by_the_words(row, None, ("turned", 6, 5), 64, 7))

    def test_it_is_divided_by_its_own_bits_a_beat_late(self):
        row = row_of(("counter", 16, 7, 0), 4, 200)
        out, fed, at, lost = rooted(row, ("turned", 4, 0), 16, 3)
        self.assertEqual(divided(row, (0,) + out[:-1], ("turned", 4, 0), 16, 3), (out, fed, at, lost))


class TakenInAndGivenBack(unittest.TestCase):
    def test_as_many_but_for_what_is_held_and_lost(self):
        rows = [row_of(maker, k, 150) for maker in SMALL_MAKERS for k in (1, 2)] + [(1,) * 150, (0,) * 150]
        lossy = 0
        for row, (most, at) in product(rows, KEEPERS):
            for maker in (("turned", 2, 0), ("counter", 12, 5, 3)):
                for told in (divided(row, rows[3], maker, most, at), rooted(row, maker, most, at)):
                    out, fed, now, (ups, downs) = told
                    self.assertEqual((len(out), len(fed)), (150, 150))
                    self.assertEqual(ones(row) - ones(fed), now - at + ups - downs)
                    lossy += ups > 0
        self.assertGreater(lossy, 50)


class BeyondTheBounds(unittest.TestCase):
    def test_no_error_is_raised(self):
        self.assertEqual(kept((), (), 0), ())
        self.assertEqual(len(kept((1,) * 4097, (1,) * 4097, 2)), 4097)
        self.assertEqual(len(kept_round((1,) * 4097, (1,) * 4097)), 4097)
        self.assertEqual(sum(held_for((1, 0) * 2100)), 4200)
        for most, at in [(0, 0), (65, 0), (65, 65), (2, 3), (2, -1), (-1, 0), (-1, -1)]:
            keeper = Keeper(most, at)
            for up, down in PAIRS * 2:
                self.assertIs(type(keeper.beat(up, down)), int)
            for maker in (("turned", -1, 0), ("table", ()), ("table", (64, -1)), ("counter", 65, 1, 0)):
                self.assertEqual(len(divided((1, 0, 1), (1, 1, 0), maker, most, at)[0]), 3)
                self.assertEqual(len(rooted((1, 0) * 2100, maker, most, at)[0]), 4200)
        self.assertEqual(divided((), (), ("turned", 2, 0), 3, 1), ((), (), 1, (0, 0)))
        self.assertEqual(rooted((), ("turned", 2, 0), 3, 1), ((), (), 1, (0, 0)))


if __name__ == "__main__":
    unittest.main()

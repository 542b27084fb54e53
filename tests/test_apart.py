import unittest
from collections import Counter
from fractions import Fraction
from itertools import combinations, product
from math import gcd

from shareones.apart import all_apart, apart, common_round, pairs_met, parted_by, shows_lean, slowed, slipped
from shareones.leaning import lean
from shareones.makers import is_maker, round_of, row_of, share_told
from shareones.shares import times
from things import MAKERS, PLAIN, PLAIN_MAKERS, SMALL_MAKERS, UNEVEN_TABLE, kinds, odd_things, with_other_parts
from words import all_apart_by_the_words, as_tuple, common_by_the_words, leans_by_the_words, maker_by_the_words
from words import values_by_the_words

C64 = ("counter", 64, 1, 0)
SHORT_MAKERS = [maker for maker in PLAIN_MAKERS + SMALL_MAKERS if round_of(maker) <= 64]
# Each two of these are apart, but the numbers of any two tell that of the third.
THREE = [("table", (0, 0, 1, 1)), ("table", (0, 1, 0, 1)), ("table", (0, 1, 1, 0))]


class CommonRound(unittest.TestCase):
    def test_by_hand(self):
        self.assertEqual(common_round([("counter", 12, 1, 0), ("counter", 8, 1, 0)]), 24)
        self.assertEqual(common_round([("counter", 12, 1, 0)]), 12)
        self.assertEqual(common_round([("counter", 1, 1, 0), ("table", (5,)), ("slow", 1, ("counter", 1, 1, 0))]), 1)
        self.assertEqual(common_round([C64, ("slow", 64, C64)]), 4096)
        self.assertEqual(common_round([("counter", size, 1, 0) for size in (2, 3, 4, 5, 6, 7)]), 420)

    def test_whatever_their_rounds(self):
        sizes = (64, 63, 61, 59, 55, 53)
        self.assertEqual(common_round([("counter", size, 1, 0) for size in sizes]), 64 * 63 * 61 * 59 * 55 * 53)
        long = ("slow", 13, ("slow", 5, ("counter", 63, 1, 0)))
        self.assertEqual(common_round([long, ("slow", 64, C64)]), 4095 * 4096)

    def test_of_all_pairs(self):
        for one, other in product(MAKERS[::5], repeat=2):
            self.assertEqual(kinds(common_round([one, other])), kinds(common_by_the_words([one, other])))


class PairsMet(unittest.TestCase):
    def test_by_hand(self):
        three = ("counter", 3, 1, 0)
        self.assertEqual(pairs_met(three, three), [(0, 0, 1), (1, 1, 1), (2, 2, 1)])
        self.assertEqual(pairs_met(three, ("table", (5, 5, 0))), [(0, 5, 1), (1, 5, 1), (2, 0, 1)])
        self.assertEqual(pairs_met(("counter", 2, 1, 0), ("table", (1, 0, 1))), [(0, 0, 1), (0, 1, 2), (1, 0, 1), (1, 1, 2)])
        self.assertEqual(pairs_met(("counter", 1, 1, 0), ("table", (9,))), [(0, 9, 1)])

    def test_of_all_pairs(self):
        for one, other in product(SHORT_MAKERS, repeat=2):
            length = common_by_the_words([one, other])
            if length <= 1000:
                met = Counter(zip(values_by_the_words(one, length), values_by_the_words(other, length)))
                due = [(a, b, met[a, b]) for a, b in sorted(met)]
                self.assertEqual(kinds(pairs_met(one, other)), kinds(due), (one, other))

    def test_of_a_common_round_of_4096(self):
        self.assertEqual(pairs_met(C64, ("slow", 64, C64)), [(a, b, 1) for a in range(64) for b in range(64)])


def lean_by_the_words(told):
    k, other_k, met, due = told
    return ("lean", k, other_k, met, as_tuple(due))


class Apart(unittest.TestCase):
    def test_by_hand(self):
        three, four = ("counter", 3, 1, 0), ("counter", 4, 1, 0)
        self.assertEqual(apart(three, four), ("apart", 12))
        self.assertEqual(apart(four, four), ("lean", 1, 1, 1, (1, 4)))
        self.assertEqual(apart(four, ("late", 1, four)), ("lean", 1, 1, 0, (1, 4)))
        self.assertEqual(apart(four, ("slow", 2, ("counter", 2, 1, 0))), ("lean", 1, 1, 1, (1, 2)))
        self.assertEqual(apart(("counter", 2, 1, 0), ("slow", 2, ("counter", 2, 1, 0))), ("apart", 4))
        self.assertEqual(apart(("table", (62, 63)), ("table", (62, 63))), ("lean", 63, 63, 1, (1, 2)))
        self.assertEqual(apart(("table", (0, 1, 0, 2)), ("table", (3, 5, 3, 4))), ("lean", 1, 4, 2, (1, 1)))

    def test_the_least_pair_is_told(self):
        # With k of 1 the numbers below are 0 alone, and these come with each number of the other as they must.
        one = ("table", (0, 0, 1, 1, 2, 2))
        other = ("table", (0, 1, 0, 0, 1, 1))
        self.assertEqual(apart(one, other), ("lean", 2, 1, 3, (2, 1)))
        self.assertEqual(apart(other, one), ("lean", 1, 2, 3, (2, 1)))

    def test_a_maker_beside_itself(self):
        for maker in MAKERS:
            numbers = set(values_by_the_words(maker, round_of(maker)))
            told = apart(maker, maker)
            self.assertEqual(told[0], "apart" if len(numbers) == 1 else "lean")
            if len(numbers) > 1:
                self.assertEqual(told[1:3], (min(numbers) + 1,) * 2)

    def test_common_rounds_of_1_and_of_4096(self):
        self.assertEqual(apart(("counter", 1, 1, 0), ("table", (63,))), ("apart", 1))
        self.assertEqual(apart(C64, ("slow", 64, ("turned", 6, 0))), ("apart", 4096))
        self.assertEqual(apart(("slip", 64, C64), C64), ("apart", 4096))
        self.assertEqual(apart(("slip", 64, C64), ("slow", 64, C64)), ("apart", 4096))
        self.assertEqual(apart(("slow", 64, C64), ("slow", 64, C64)), ("lean", 1, 1, 64, (1, 1)))
        self.assertEqual(apart(("slow", 64, C64), ("slow", 32, C64)), ("lean", 1, 1, 32, (1, 1)))

    def test_of_all_small_pairs(self):
        for one, other in product(SMALL_MAKERS, repeat=2):
            leaning = leans_by_the_words(one, other, 6)
            due = lean_by_the_words(leaning[0]) if leaning else ("apart", common_by_the_words([one, other]))
            self.assertEqual(kinds(apart(one, other)), kinds(due), (one, other))
            self.assertIs(apart(one, other)[0] == "apart", all_apart_by_the_words([one, other]))

    def test_numbers_to_63(self):
        wide = [("table", UNEVEN_TABLE), ("turned", 6, 5), ("register", 6, 63, 63), ("register", 6, 33, 1)]
        for one, other in combinations(wide, 2):
            if common_by_the_words([one, other]) <= 4096:
                due = next(iter(leans_by_the_words(one, other)), None)
                told = lean_by_the_words(due) if due else ("apart", common_by_the_words([one, other]))
                self.assertEqual(kinds(apart(one, other)), kinds(told))

    def test_what_is_told_shows_it(self):
        for one, other in product(SHORT_MAKERS, repeat=2):
            length = common_round([one, other])
            if length > 600:
                continue
            told = apart(one, other)
            self.assertIs(shows_lean(one, other, told), told[0] == "lean")
            if told[0] == "lean":
                _, k, other_k, met, due = told
                rows = row_of(one, k, length), row_of(other, other_k, length)
                self.assertNotEqual(lean(*rows), 0)
                self.assertEqual(met, sum(a * b for a, b in zip(*rows)))
                self.assertEqual(due, times((length, 1), times(share_told(one, k), share_told(other, other_k))))


class ShowsLean(unittest.TestCase):
    def test_any_such_pair_and_no_other(self):
        for one, other in product(SMALL_MAKERS[1::2], SMALL_MAKERS):
            leaning = {told[:2]: lean_by_the_words(told) for told in leans_by_the_words(one, other, 6)}
            length = common_by_the_words([one, other])
            for k, other_k in product(range(7), repeat=2):
                if (k, other_k) in leaning:
                    self.assertIs(shows_lean(one, other, leaning[k, other_k]), True)
                met = sum(a * b for a, b in zip(row_of(one, k, length), row_of(other, other_k, length)))
                due = times((length, 1), times(share_told(one, k), share_told(other, other_k)))
                self.assertIs(shows_lean(one, other, ("lean", k, other_k, met, due)), (k, other_k) in leaning)

    def test_ks_to_64_and_beyond(self):
        one = ("table", (63, 0))
        self.assertIs(shows_lean(one, one, ("lean", 1, 63, 1, (1, 2))), True)
        for k, other_k, met, due in ((64, 1, 1, (1, 1)), (0, 1, 0, (0, 1)), (64, 64, 2, (2, 1)), (65, 1, 1, (1, 2))):
            self.assertIs(shows_lean(one, one, ("lean", k, other_k, met, due)), False)
            self.assertIs(shows_lean(one, one, ("lean", other_k, k, met, due)), False)
        beyond = ("table", (64, 0))
        for k, other_k in ((64, 65), (65, 64), (65, 65), (-1, 1), (1, -1), (10 ** 5000, 1)):
            self.assertIs(shows_lean(one, one, ("lean", k, other_k, 1, (1, 2))), False)
            self.assertIs(shows_lean(beyond, beyond, ("lean", k, other_k, 1, (1, 2))), False)

    def test_met_and_due_are_right(self):
        four = ("counter", 4, 1, 0)
        right = ("lean", 2, 2, 2, (1, 1))
        self.assertIs(shows_lean(four, four, right), True)
        self.assertIs(shows_lean(four, four, ("lean", 1, 2, 1, (1, 2))), True)
        wrong = [(2, 2, 1, (1, 1)), (2, 2, 3, (1, 1)), (2, 2, 2, (2, 2)), (2, 2, 2, (4, 4)), (2, 2, 2, (-1, -1))]
        wrong += [(2, 2, 2, 1), (2, 2, 2, (2, 1)), (2, 2, 2, [1, 1]), (2, 2, 2, (1, 1, 1)), (2, 2, 2, (1,)), (2, 2, 2, (1, 0))]
        wrong += [(1, 2, 1, (2, 4)), (1, 2, 1, (1, 4)), (1, 2, True, (1, 2)), (True, 2, 1, (1, 2)), (1, 2, 1, (True, 2))]
        wrong += [(2, 2, 2, (1, True)), (2, 2, 2, (True, True)), (2, True, 1, (1, 2)), (2, 2, None, (1, 1)), (2, 2, 2, None)]
        wrong += [(2, 2, "2", (1, 1)), (2, 2, 2, "11"), (2, 2, (2,), (1, 1)), (2, None, 2, (1, 1)), ((2,), 2, 2, (1, 1))]
        for parts in wrong:
            self.assertIs(shows_lean(four, four, ("lean", *parts)), False, parts)

    def test_where_true_and_false_would_be_right_as_numbers(self):
        two = ("counter", 2, 1, 0)
        self.assertIs(shows_lean(two, ("late", 1, two), ("lean", 1, 1, 0, (1, 2))), True)
        for parts in ((True, 1, 0, (1, 2)), (1, True, 0, (1, 2)), (1, 1, False, (1, 2)), (1, 1, 0, (True, 2))):
            self.assertIs(shows_lean(two, ("late", 1, two), ("lean", *parts)), False, parts)

    def test_no_pair_shows_that_makers_that_are_apart_lean(self):
        three, four = ("counter", 3, 1, 0), ("counter", 4, 1, 0)
        for k, other_k, met in product(range(-1, 6), range(-1, 6), range(-1, 13)):
            for due in ((met, 1), (k * other_k, 1), (1, 2)):
                self.assertIs(shows_lean(three, four, ("lean", k, other_k, met, due)), False)
        self.assertIs(shows_lean(three, four, ("apart", 12)), False)

    def test_words_and_parts(self):
        four = ("counter", 4, 1, 0)
        right = ("lean", 2, 2, 2, (1, 1))
        for thing in (list(right), right[1:], right[:-1], right + (1,), ("Lean",) + right[1:], ("apart",) + right[1:]):
            self.assertIs(shows_lean(four, four, thing), False)
        for word in (None, 0, True, ["lean"], ("lean",), "", "lean "):
            self.assertIs(shows_lean(four, four, (word,) + right[1:]), False)

    def test_asked_of_what_nearly_shows_it(self):
        four = ("counter", 4, 1, 0)
        right = {kinds_in_tuples(lean_by_the_words(told)) for told in leans_by_the_words(four, four)}
        for thing in with_other_parts(("lean", 1, 2, 1, (1, 2)), PLAIN + (64, 65, (), [], (1, 2), [1, 2], "lean", (2, 4))):
            self.assertIs(shows_lean(four, four, thing), kinds_in_tuples(thing) in right, thing)

    def test_asked_of_anything(self):
        four = ("counter", 4, 1, 0)
        for thing in odd_things():
            self.assertIs(shows_lean(four, four, thing), False)
            self.assertIs(shows_lean(four, four, ("lean", thing, thing, thing, thing)), False)
            self.assertIs(shows_lean(four, four, (thing, 2, 2, 2, (1, 1))), False)


def kinds_in_tuples(thing):
    if isinstance(thing, (tuple, list)):
        return (type(thing).__name__, tuple(kinds_in_tuples(part) for part in thing))
    return (type(thing).__name__, thing)


class AllApart(unittest.TestCase):
    def test_three_of_which_each_two_are_apart_but_not_all(self):
        for one, other in combinations(THREE, 2):
            self.assertIs(all_apart([one, other]), True)
            self.assertEqual(apart(one, other), ("apart", 4))
        self.assertIs(all_apart(THREE), False)
        self.assertIs(all_apart(THREE + [("counter", 3, 1, 0)]), False)
        self.assertIs(all_apart(THREE[:2] + [("counter", 3, 1, 0)]), True)

    def test_one_maker_is(self):
        for maker in MAKERS:
            self.assertIs(all_apart([maker]), True)

    def test_by_hand(self):
        two, slow = ("counter", 2, 1, 0), ("slow", 2, ("counter", 2, 1, 0))
        self.assertIs(all_apart([two, slow, ("slow", 4, two)]), True)
        self.assertIs(all_apart([two, slow, slow]), False)
        self.assertIs(all_apart([two, two]), False)
        self.assertIs(all_apart([("table", (7,))] * 6), True)
        six = [("slow", many, two) for many in (1, 2, 4, 8, 16, 32)]
        self.assertIs(all_apart(six), True)
        self.assertIs(all_apart(six[:5] + six[:1]), False)
        self.assertIs(all_apart([C64, ("slow", 64, C64)]), True)
        self.assertIs(all_apart([C64, ("slow", 64, C64), ("slip", 64, C64)]), False)

    def test_where_all_that_are_met_are_not_all_that_must_be(self):
        self.assertIs(all_apart([("table", (0, 1)), ("table", (0, 1))]), False)
        self.assertIs(all_apart([("table", (0, 0, 1)), ("table", (1, 0, 0))]), False)

    def test_pairs_and_threes_by_the_words(self):
        for many, makers in ((2, SMALL_MAKERS), (3, SMALL_MAKERS[1:12])):
            for chosen in product(makers, repeat=many):
                self.assertIs(all_apart(list(chosen)), all_apart_by_the_words(chosen), chosen)

    def test_all_apart_means_each_two_are(self):
        for chosen in product(SMALL_MAKERS[::2], repeat=3):
            if all_apart(list(chosen)):
                for one, other in combinations(chosen, 2):
                    self.assertEqual(apart(one, other)[0], "apart")

    def test_rounds_without_a_common_divisor(self):
        for one, other in product(SHORT_MAKERS, repeat=2):
            if gcd(round_of(one), round_of(other)) == 1:
                self.assertIs(all_apart([one, other]), True)
                self.assertIs(all_apart([("late", 5, one), ("late", 64, other)]), True)
        for sizes in ((3, 4, 5, 7), (2, 3, 5, 7, 11), (1, 2, 3, 5, 7, 11), (9, 8, 7, 5), (63, 64), (16, 15, 17)):
            makers = [("counter", size, size - 1 or 1, size // 2) for size in sizes]
            self.assertIs(all_apart(makers), True)
            late = [("late", at, maker) for at, maker in enumerate(makers)]
            self.assertIs(all_apart(late), True)
            self.assertIs(all_apart(makers[:1] + late[1:]), True)
        mixed = [("register", 3, 5, 1), ("turned", 3, 2), ("table", (0, 0, 9)), ("slow", 5, ("counter", 5, 1, 0))]
        self.assertIs(all_apart(mixed), True)
        self.assertIs(all_apart([mixed[0], ("late", 3, mixed[1]), mixed[2], ("late", 64, mixed[3])]), True)


class SlowedAndSlipped(unittest.TestCase):
    def test_what_is_told(self):
        one, other = ("counter", 12, 5, 3), ("late", 3, ("slow", 2, ("turned", 3, 1)))
        self.assertEqual(kinds(slowed(one, other)), kinds(("slow", 12, other)))
        self.assertEqual(kinds(slipped(one, other)), kinds(("slip", 12, other)))
        self.assertEqual(slowed(("register", 4, 8, 5), C64), ("slow", 2, C64))

    def test_slowed_is_apart_from_the_one(self):
        for one, other in product(SHORT_MAKERS, repeat=2):
            told = slowed(one, other)
            self.assertIs(is_maker(told), True)
            if round_of(one) * round_of(other) <= 700 or round_of(one) == 64 == round_of(other):
                self.assertEqual(apart(one, told), ("apart", round_of(one) * round_of(other)))

    def test_slipped_is_apart_from_the_one_where_both_rounds_are_the_same(self):
        found = 0
        for one, other in product(SHORT_MAKERS, repeat=2):
            if round_of(one) == round_of(other):
                told = slipped(one, other)
                self.assertIs(is_maker(told), True)
                self.assertEqual(apart(one, told), ("apart", round_of(one) ** 2))
                found += 1
        self.assertGreater(found, 60)

    def test_of_makers_within_which_others_stand(self):
        two_within = ("slip", 5, ("late", 7, ("counter", 6, 5, 2)))
        self.assertEqual(round_of(two_within), 5)
        one = ("counter", 5, 2, 0)
        self.assertEqual(apart(one, slowed(one, two_within)), ("apart", 25))
        self.assertEqual(apart(one, slipped(one, two_within)), ("apart", 25))


def parted_by_the_words(one, other):
    for many in range(1, 65):
        slip = ("slip", many, other)
        if maker_by_the_words(slip) and common_by_the_words([one, slip]) <= 4096:
            if all_apart_by_the_words([one, slip]):
                return many
    return None


class PartedBy(unittest.TestCase):
    def test_by_hand(self):
        four = ("counter", 4, 1, 0)
        self.assertEqual(parted_by(four, four), 3)
        self.assertEqual(parted_by(("counter", 5, 1, 0), ("counter", 5, 1, 0)), 4)
        self.assertEqual(parted_by(("counter", 5, 1, 0), four), 1)
        self.assertEqual(parted_by(("table", (8,)), four), 1)
        self.assertEqual(parted_by(C64, C64), 63)
        self.assertEqual(parted_by(C64, ("turned", 6, 0)), 63)

    def test_the_greatest_many(self):
        # Slipping by less, a counter of 13 has too long a common round with one of 4,096.
        self.assertEqual(parted_by(("slow", 64, C64), ("counter", 13, 1, 0)), 64)

    def test_none_where_all_common_rounds_are_too_long(self):
        self.assertIsNone(parted_by(("slow", 64, ("counter", 61, 1, 0)), ("counter", 59, 1, 0)))

    def test_none_where_all_others_lean(self):
        one = ("slow", 31, C64)
        near = [many for many in range(1, 65) if common_round([one, ("slip", many, C64)]) <= 4096]
        self.assertEqual(near, [1, 2, 31, 62])
        self.assertEqual([apart(one, ("slip", many, C64))[0] for many in near], ["lean"] * 4)
        self.assertIsNone(parted_by(one, C64))

    def test_by_the_words(self):
        for one, other in product(SMALL_MAKERS, repeat=2):
            # Slipping, other has to stay within three of slow, slip, late.
            self.assertEqual(kinds(parted_by(one, other)), kinds(parted_by_the_words(one, other)), (one, other))

    def test_one_is_any_maker(self):
        for one in MAKERS[27::17]:
            other = ("table", (0, 1, 1))
            self.assertEqual(parted_by(one, other), parted_by_the_words(one, other), one)

    def test_none_where_no_slip_is_a_maker(self):
        three_within = ("slow", 1, ("slow", 1, ("slow", 1, ("counter", 2, 1, 0))))
        self.assertIsNone(parted_by(("counter", 3, 1, 0), three_within))


class BeyondTheBounds(unittest.TestCase):
    def test_no_error_is_raised(self):
        self.assertEqual(common_round([]), 1)
        self.assertEqual(common_round([("counter", 2, 1, 0)] * 9), 2)
        self.assertIs(all_apart([("table", (1,))] * 7), True)
        self.assertEqual(apart(("counter", 65, 1, 0), ("counter", 67, 1, 0)), ("apart", 65 * 67))
        self.assertEqual(apart(("table", (64, 65)), ("table", (64, 65)))[0], "apart")
        self.assertEqual(Fraction(*apart(("counter", 65, 1, 0), ("counter", 65, 1, 0))[4]), Fraction(1, 65))
        five = ("counter", 5, 1, 0)
        for beyond in (("turned", -1, 0), ("register", -1, 1, 1), ("table", ()), ("slow", 0, five), ("slip", -1, five)):
            for one, other in ((beyond, five), (five, beyond), (beyond, beyond)):
                pairs_met(one, other)
                self.assertIn(apart(one, other)[0], ("apart", "lean"))
                self.assertIn(all_apart([one, other, one]), (True, False))
                shows_lean(one, other, ("lean", 1, 1, 1, (1, 5)))
                slowed(one, other)
                slipped(one, other)
                parted_by(one, other)


if __name__ == "__main__":
    unittest.main()

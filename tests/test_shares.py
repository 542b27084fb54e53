import unittest
from fractions import Fraction
from itertools import product

from shareones.shares import before, fraction, is_share, minus, plus, times
from things import is_plain_number, kinds, odd_things

HUGE = 10 ** 5000
NUMBERS = list(range(-13, 14)) + [60, -60, 4096, 10 ** 30, -(10 ** 30), HUGE, -HUGE, HUGE + 1, 6 * HUGE]


def as_pair(value):
    return (value.numerator, value.denominator)


def some_fractions():
    found = {Fraction(top, bottom) for top in range(-7, 8) for bottom in range(1, 8)}
    found |= {Fraction(HUGE, 7), Fraction(-1, HUGE), Fraction(HUGE + 1, HUGE), Fraction(HUGE)}
    return sorted(found)


class Fractions(unittest.TestCase):
    def test_fraction_of_numbers_of_any_size_and_sign(self):
        for top, bottom in product(NUMBERS, repeat=2):
            if bottom != 0:
                made = fraction(top, bottom)
                self.assertIs(type(made), tuple)
                self.assertEqual(made, as_pair(Fraction(top, bottom)))

    def test_fraction_by_hand(self):
        self.assertEqual(fraction(6, 4), (3, 2))
        self.assertEqual(fraction(6, -4), (-3, 2))
        self.assertEqual(fraction(-6, -4), (3, 2))
        self.assertEqual(fraction(0, 5), (0, 1))
        self.assertEqual(fraction(0, -5), (0, 1))
        self.assertEqual(fraction(-9, 3), (-3, 1))
        self.assertEqual(fraction(4096, 4096), (1, 1))

    def test_fraction_of_numbers_with_many_steps_to_their_divisor(self):
        one, other = 1, 1
        for _ in range(5000):
            one, other = other, one + other
        self.assertEqual(fraction(one * 6, other * 9), (one * 2, other * 3) if one % 3 else (one * 2 // 3, other))

    def test_plus_minus_times_before(self):
        for one, other in product(some_fractions(), repeat=2):
            a, b = as_pair(one), as_pair(other)
            self.assertEqual(kinds(plus(a, b)), kinds(as_pair(one + other)))
            self.assertEqual(kinds(minus(a, b)), kinds(as_pair(one - other)))
            self.assertEqual(kinds(times(a, b)), kinds(as_pair(one * other)))
            self.assertIs(before(a, b), one < other)

    def test_by_hand(self):
        self.assertEqual(plus((1, 2), (1, 3)), (5, 6))
        self.assertEqual(plus((1, 2), (1, 2)), (1, 1))
        self.assertEqual(plus((1, 2), (-1, 2)), (0, 1))
        self.assertEqual(minus((1, 3), (1, 2)), (-1, 6))
        self.assertEqual(times((2, 3), (3, 4)), (1, 2))
        self.assertEqual(times((-2, 3), (0, 1)), (0, 1))
        self.assertIs(before((1, 3), (1, 2)), True)
        self.assertIs(before((1, 2), (1, 2)), False)
        self.assertIs(before((1, 2), (1, 3)), False)
        self.assertIs(before((-1, 2), (-1, 3)), True)


def share_by_the_words(thing):
    if type(thing) is not tuple or len(thing) != 2 or not all(is_plain_number(part) for part in thing):
        return False
    top, bottom = thing
    return bottom > 0 and 0 <= top <= bottom and as_pair(Fraction(top, bottom)) == thing


class IsShare(unittest.TestCase):
    def test_ends_and_what_is_beyond_them(self):
        for thing in ((0, 1), (1, 1), (1, 2), (2, 3), (4095, 4096), (1, HUGE), (HUGE, HUGE + 1)):
            self.assertIs(is_share(thing), True)
        for thing in ((-1, 2), (3, 2), (2, 1), (HUGE + 1, HUGE), (-1, 1), (1, -1), (-1, -2), (0, -1)):
            self.assertIs(is_share(thing), False)

    def test_only_lowest_terms(self):
        for thing in ((0, 2), (2, 2), (2, 4), (6, 9), (HUGE, 2 * HUGE), (0, 0), (1, 0), (0, HUGE)):
            self.assertIs(is_share(thing), False)

    def test_true_and_false_are_no_numbers_and_a_list_is_no_tuple(self):
        for thing in ((True, 1), (1, True), (True, True), (False, 1), (False, True), (0, True), [0, 1], [1, 2], [1, 1]):
            self.assertIs(is_share(thing), False)

    def test_asked_of_pairs_of_small_numbers(self):
        for thing in product(range(-4, 14), repeat=2):
            self.assertIs(is_share(thing), share_by_the_words(thing))

    def test_asked_of_anything(self):
        for thing in odd_things():
            self.assertIs(is_share(thing), share_by_the_words(thing))


if __name__ == "__main__":
    unittest.main()

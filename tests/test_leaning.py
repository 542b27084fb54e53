import unittest
from itertools import product

from shareones.errors import NoSuch, Unlike
from shareones.leaning import lean, lean_ends, leaning_rows, leans, overlap, parting, shows_rows
from shareones.rows import is_row, round_late, turned
from things import LONG_ROWS, kinds, odd_things, rows_of, short_rows


def met_by_the_words(one, other):
    return len([at for at in range(len(one)) if one[at] == 1 and other[at] == 1])


def lean_by_the_words(one, other):
    return len(one) * met_by_the_words(one, other) - one.count(1) * other.count(1)


def leans_by_the_words(one, other):
    return [lean_by_the_words(one, other[-by:] + other[:-by] if by else other) for by in range(len(one))]


def pairs(most):
    return [pair for length in range(1, most + 1) for pair in product(rows_of(length), repeat=2)]


class Leans(unittest.TestCase):
    def test_overlap_and_lean(self):
        for one, other in pairs(5):
            self.assertEqual(kinds(overlap(one, other)), kinds(met_by_the_words(one, other)))
            self.assertEqual(kinds(lean(one, other)), kinds(lean_by_the_words(one, other)))

    def test_by_hand(self):
        self.assertEqual(overlap((1, 1, 0, 1), (1, 0, 1, 1)), 2)
        self.assertEqual(lean((1, 1, 0, 0), (1, 1, 0, 0)), 4)
        self.assertEqual(lean((1, 1, 0, 0), (0, 0, 1, 1)), -4)
        self.assertEqual(lean((1, 1, 0, 0), (1, 0, 1, 0)), 0)
        self.assertEqual(lean((1,), (1,)), 0)
        self.assertEqual(leans((1, 1, 0, 0), (1, 1, 0, 0)), [4, 0, -4, 0])
        self.assertEqual(leans((1, 0, 0), (1, 0, 0)), [2, -1, -1])
        self.assertEqual(leans((1, 0, 0), (0, 1, 0)), [-1, -1, 2])

    def test_leans(self):
        for one, other in pairs(5):
            found = leans(one, other)
            self.assertEqual(kinds(found), kinds(leans_by_the_words(one, other)))
            self.assertEqual(found, [lean(one, round_late(other, by)) for by in range(len(one))])
            self.assertEqual(sum(found), 0)

    def test_long_rows(self):
        uneven = LONG_ROWS[-1]
        for other in LONG_ROWS:
            self.assertEqual(overlap(uneven, other), met_by_the_words(uneven, other))
            self.assertEqual(lean(uneven, other), lean_by_the_words(uneven, other))
            found = leans(uneven, other)
            self.assertEqual(len(found), 4096)
            self.assertEqual(sum(found), 0)
            for by in (0, 1, 2, 2047, 4095):
                self.assertEqual(found[by], lean_by_the_words(uneven, round_late(other, by)))
        self.assertEqual(lean((1,) + (0,) * 4095, (1,) + (0,) * 4095), 4095)

    def test_parting(self):
        for one, other in pairs(5):
            due = [by for by, told in enumerate(leans_by_the_words(one, other)) if told == 0]
            self.assertEqual(parting(one, other), due[0] if due else None)

    def test_parting_by_hand(self):
        self.assertEqual(parting((1, 1, 0, 0), (1, 1, 0, 0)), 1)
        self.assertEqual(parting((1, 1, 0, 0), (1, 0, 1, 0)), 0)
        self.assertEqual(parting((1,) * 4, (0, 1, 1, 0)), 0)
        self.assertIsNone(parting((1, 0, 0), (1, 0, 0)))
        self.assertIsNone(parting((1, 0), (1, 0)))
        self.assertEqual(parting((1,) * 2048 + (0,) * 2048, (1,) * 2048 + (0,) * 2048), 1024)
        self.assertIsNone(parting((1,) + (0,) * 4095, (1,) + (0,) * 4095))

    def test_rows_of_different_lengths_are_refused(self):
        for one, other in product(short_rows(3) + [(1,) * 4095, (1,) * 4096], repeat=2):
            if len(one) != len(other):
                for deed in (overlap, lean, leans, parting):
                    with self.assertRaises(Unlike) as caught:
                        deed(one, other)
                    self.assertIs(type(caught.exception), Unlike)


class Ends(unittest.TestCase):
    def test_ends_are_those_of_all_rows(self):
        for n in range(1, 7):
            found = {}
            for one, other in product(rows_of(n), repeat=2):
                found.setdefault((one.count(1), other.count(1)), []).append(lean_by_the_words(one, other))
            self.assertEqual(len(found), (n + 1) ** 2)
            for (a, b), told in found.items():
                self.assertEqual(kinds(lean_ends(n, a, b)), kinds((min(told), max(told))))

    def test_by_hand(self):
        self.assertEqual(lean_ends(4, 2, 2), (-4, 4))
        self.assertEqual(lean_ends(4, 3, 3), (-1, 3))
        self.assertEqual(lean_ends(1, 1, 1), (0, 0))
        self.assertEqual(lean_ends(4096, 0, 4096), (0, 0))
        self.assertEqual(lean_ends(4096, 2048, 2048), (-(2048 ** 2), 2048 ** 2))


class LeaningRows(unittest.TestCase):
    def assert_told(self, n, a, b, met):
        found = leaning_rows(n, a, b, met)
        self.assertIs(type(found), tuple)
        self.assertEqual(len(found), 2)
        one, other = found
        self.assertTrue(is_row(one) and is_row(other))
        self.assertEqual((len(one), len(other)), (n, n))
        self.assertEqual((one.count(1), other.count(1), met_by_the_words(one, other)), (a, b, met))
        self.assertIs(shows_rows(n, a, b, met, found), True)

    def assert_refused(self, n, a, b, met):
        with self.assertRaises(NoSuch) as caught:
            leaning_rows(n, a, b, met)
        self.assertIs(type(caught.exception), NoSuch)

    def assert_right(self, n, a, b, met):
        if max(0, a + b - n) <= met <= min(a, b):
            self.assert_told(n, a, b, met)
        else:
            self.assert_refused(n, a, b, met)

    def test_of_all_short_rows(self):
        for n in range(1, 6):
            possible = {(x.count(1), y.count(1), met_by_the_words(x, y)) for x, y in product(rows_of(n), repeat=2)}
            for a, b, met in product(range(n + 1), range(n + 1), range(-2, n + 3)):
                if (a, b, met) in possible:
                    self.assert_told(n, a, b, met)
                else:
                    self.assert_refused(n, a, b, met)

    def test_both_ends_and_one_beyond(self):
        for n, a, b in ((4096, 3000, 2000), (4096, 1, 4096), (4096, 0, 0), (4096, 4096, 4096), (100, 60, 30), (1, 0, 1)):
            least, greatest = max(0, a + b - n), min(a, b)
            for met in (least - 1, least, greatest, greatest + 1):
                self.assert_right(n, a, b, met)

    def test_met_is_any_number(self):
        for met in (-1, -(10 ** 5000), 10 ** 5000, 4097):
            self.assert_refused(10, 5, 5, met)

    def test_there_are_no_rows_beyond_the_bounds_of_rows(self):
        for n, a, b, met in ((0, 0, 0, 0), (4097, 1, 1, 1), (3, 4, 1, 1), (3, 1, 4, 1), (3, -1, 1, 0), (-1, 0, 0, 0)):
            self.assert_refused(n, a, b, met)


class ShowsRows(unittest.TestCase):
    def test_just_the_right_pairs(self):
        for n in range(1, 4):
            for one, other in product(short_rows(3), repeat=2):
                for a, b, met in product(range(n + 1), range(n + 1), range(-1, n + 2)):
                    alike = len(one) == n and len(other) == n
                    right = alike and (one.count(1), other.count(1), met_by_the_words(one, other)) == (a, b, met)
                    self.assertIs(shows_rows(n, a, b, met, (one, other)), right)

    def test_any_such_pair_shows(self):
        self.assertIs(shows_rows(4, 2, 2, 1, ((0, 1, 1, 0), (0, 0, 1, 1))), True)
        self.assertIs(shows_rows(4, 2, 2, 1, ((1, 1, 0, 0), (1, 0, 1, 0))), True)
        uneven = LONG_ROWS[-1]
        many = uneven.count(1)
        self.assertIs(shows_rows(4096, many, 4096 - many, 0, (uneven, turned(uneven))), True)
        self.assertIs(shows_rows(4096, many, many, 0, (uneven, turned(uneven))), False)

    def test_wrong_things(self):
        one, other = (1, 1, 0, 0), (1, 0, 1, 0)
        right = (one, other)
        wrong = [list(right), (one,), (one, other, other), (one, list(other)), (list(one), other), (right,), one, "", None]
        wrong += [((1, True, 0, 0), other), (one, (1, False, 1, 0)), ((1, 1, 0, None), other), (one, (1, 0, 1, "0"))]
        wrong += [((2, 0, 0, 0), other), (one, (3, -1, 0, 0)), ((1, 1, 0, 0, 0), other), (one, (1, 0, 1)), (one, ())]
        self.assertIs(shows_rows(4, 2, 2, 1, right), True)
        for thing in wrong:
            self.assertIs(shows_rows(4, 2, 2, 1, thing), False)

    def test_asked_of_anything(self):
        for thing in odd_things():
            self.assertIs(shows_rows(2, 1, 1, 0, thing), kinds(thing) == kinds(((1, 0), (0, 1))))
            self.assertIs(shows_rows(2, 1, 1, 1, thing), False)
            self.assertIs(shows_rows(1, 1, 1, 1, thing), False)

    def test_what_cannot_be_is_not_shown(self):
        for thing in odd_things():
            self.assertIs(shows_rows(2, 1, 1, -1, thing), False)
            self.assertIs(shows_rows(2, 1, 1, 10 ** 5000, thing), False)


if __name__ == "__main__":
    unittest.main()

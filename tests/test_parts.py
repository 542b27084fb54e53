import unittest
from fractions import Fraction

from shareones.makers import row_of
from shareones.parts import beats_for, worst_of, worst_part, worst_stretch
from shareones.rows import again, round_late, turned
from things import LONG_ROWS, MAKERS, SMALL_MAKERS, kinds, short_rows
from words import as_tuple, round_by_the_words, top_by_the_words, values_by_the_words

UNEVEN = LONG_ROWS[-1]


def off_by_the_words(row, begin, end):
    """By what the bits from begin to ahead of end are off, the row told again and again."""
    told = row * (end // len(row) + 1)
    return abs(told[begin:end].count(1) - (end - begin) * Fraction(row.count(1), len(row)))


def part_by_the_words(row):
    offs = [off_by_the_words(row, 0, n) for n in range(len(row) + 1)]
    return (as_tuple(max(offs)), offs.index(max(offs)))


def stretch_by_the_words(row):
    pairs = [(begin, end) for begin in range(len(row) + 1) for end in range(begin, len(row) + 1)]
    most = max(off_by_the_words(row, *pair) for pair in pairs)
    return (as_tuple(most), *min(pair for pair in pairs if off_by_the_words(row, *pair) == most))


class WorstPart(unittest.TestCase):
    def test_by_hand(self):
        self.assertEqual(worst_part((1, 1, 0, 0)), ((1, 1), 2))
        self.assertEqual(worst_part((0, 1, 0)), ((1, 3), 1))
        self.assertEqual(worst_part((1, 0, 0, 1)), ((1, 2), 1))
        self.assertEqual(worst_part((0, 0, 1, 1, 1, 1, 0, 0)), ((1, 1), 2))

    def test_rows_without_a_1_and_of_ones_alone_are_never_off(self):
        for length in (1, 2, 7, 4096):
            self.assertEqual(worst_part((0,) * length), ((0, 1), 0))
            self.assertEqual(worst_part((1,) * length), ((0, 1), 0))

    def test_of_all_short_rows(self):
        for row in short_rows(8):
            self.assertEqual(kinds(worst_part(row)), kinds(part_by_the_words(row)), row)

    def test_long_rows(self):
        self.assertEqual(worst_part((1,) + (0,) * 4095), ((4095, 4096), 1))
        self.assertEqual(worst_part((0,) * 4095 + (1,)), ((4095, 4096), 4095))
        self.assertEqual(worst_part((1,) * 2048 + (0,) * 2048), ((1024, 1), 2048))
        self.assertEqual(worst_part((1, 0) * 2048), ((1, 2), 1))
        off, n = worst_part(UNEVEN)
        self.assertEqual(as_tuple(off_by_the_words(UNEVEN, 0, n)), off)

    def test_no_part_of_the_row_told_again_and_again_is_off_by_more(self):
        for row in short_rows(7):
            off, n = worst_part(row)
            self.assertEqual(off_by_the_words(row, 0, n), Fraction(*off))
            for many in range(3 * len(row) + 1):
                self.assertLessEqual(off_by_the_words(row, 0, many), Fraction(*off))

    def test_a_row_told_many_times_has_the_same_worst_part(self):
        for row in short_rows(5):
            self.assertEqual(worst_part(again(row, 7)), worst_part(row))

    def test_of_a_counter(self):
        for size in range(2, 65):
            for k in range(1, size):
                row = row_of(("counter", size, 1, 0), k, size)
                self.assertEqual(worst_part(row), (as_tuple(Fraction(k * (size - k), size)), k))


class WorstStretch(unittest.TestCase):
    def test_by_hand(self):
        self.assertEqual(worst_stretch((1, 1, 0, 0)), ((1, 1), 0, 2))
        self.assertEqual(worst_stretch((0, 1, 1, 0)), ((1, 1), 1, 3))
        self.assertEqual(worst_stretch((0, 0, 0, 1, 1, 0, 0, 1)), ((5, 4), 3, 5))
        self.assertEqual(worst_stretch((0, 0, 0, 1, 0, 1, 1)), ((9, 7), 0, 3))
        self.assertEqual(worst_stretch((0, 0, 1, 1, 1, 1, 0, 0)), ((2, 1), 2, 6))
        self.assertEqual(worst_stretch((0, 1, 0)), ((2, 3), 1, 2))

    def test_rows_without_a_1_and_of_ones_alone_have_a_stretch_of_no_bits(self):
        for length in (1, 2, 7, 4096):
            self.assertEqual(worst_stretch((0,) * length), ((0, 1), 0, 0))
            self.assertEqual(worst_stretch((1,) * length), ((0, 1), 0, 0))

    def test_of_all_short_rows(self):
        for row in short_rows(8):
            self.assertEqual(kinds(worst_stretch(row)), kinds(stretch_by_the_words(row)), row)

    def test_long_rows(self):
        self.assertEqual(worst_stretch((0,) * 4095 + (1,)), ((4095, 4096), 0, 4095))
        self.assertEqual(worst_stretch((0,) * 1024 + (1,) * 2048 + (0,) * 1024), ((1024, 1), 1024, 3072))
        off, begin, end = worst_stretch(UNEVEN)
        self.assertEqual(as_tuple(off_by_the_words(UNEVEN, begin, end)), off)

    def test_no_stretch_of_the_row_told_again_and_again_is_off_by_more(self):
        for row in short_rows(6):
            off, begin, end = worst_stretch(row)
            self.assertLessEqual(begin, end)
            self.assertEqual(off_by_the_words(row, begin, end), Fraction(*off))
            for at in range(len(row)):
                for many in range(2 * len(row) + 2):
                    self.assertLessEqual(off_by_the_words(row, at, at + many), Fraction(*off))

    def test_told_late_or_turned_a_row_is_off_by_as_much(self):
        for row in short_rows(7):
            off = worst_stretch(row)[0]
            self.assertEqual(worst_stretch(turned(row))[0], off)
            for by in range(len(row)):
                self.assertEqual(worst_stretch(round_late(row, by))[0], off)


def worst_by_the_words(maker):
    numbers = values_by_the_words(maker, round_by_the_words(maker))
    parts = []
    for k in range(top_by_the_words(maker) + 1):
        off, n = part_by_the_words(tuple(int(number < k) for number in numbers))
        parts.append((-Fraction(*off), k, n))
    off, k, n = min(parts)
    return (as_tuple(-off), k, n)


class WorstOf(unittest.TestCase):
    def test_by_hand(self):
        self.assertEqual(worst_of(("counter", 4, 1, 0)), ((1, 1), 2, 2))
        self.assertEqual(worst_of(("counter", 5, 1, 0)), ((6, 5), 2, 2))
        self.assertEqual(worst_of(("counter", 1, 1, 0)), ((0, 1), 0, 0))
        self.assertEqual(worst_of(("table", (63,) * 64)), ((0, 1), 0, 0))
        self.assertEqual(worst_of(("table", (63, 0))), ((1, 2), 1, 1))
        self.assertEqual(worst_of(("counter", 64, 1, 0)), ((16, 1), 32, 32))
        self.assertEqual(worst_of(("slow", 64, ("counter", 64, 1, 0))), ((1024, 1), 32, 2048))

    def test_by_the_words(self):
        makers = [maker for maker in MAKERS if round_by_the_words(maker) <= 40] + list(SMALL_MAKERS)
        self.assertGreater(len(makers), 100)
        for maker in makers:
            self.assertEqual(kinds(worst_of(maker)), kinds(worst_by_the_words(maker)), maker)

    def test_it_is_the_worst_part_of_a_row(self):
        for maker in MAKERS[::9]:
            off, k, n = worst_of(maker)
            length = round_by_the_words(maker)
            self.assertEqual(worst_part(row_of(maker, k, length)), (off, n))
            for lower in range(0, k, 5):
                self.assertLess(Fraction(*worst_part(row_of(maker, lower, length))[0]), Fraction(*off))


def beats_by_the_words(row, e):
    # Beyond this many beats nothing is so far off: no part of a row is off by more than its length.
    most = 2 + int(len(row) / Fraction(*e))
    bits = row * (most // len(row) + 1)
    total, ones, last = row.count(1), 0, 0
    for n in range(1, most + 1):
        ones += bits[n - 1]
        # The share of the first n, less the row's, is this number by n * len(row).
        if abs(ones * len(row) - n * total) * e[1] > e[0] * n * len(row):
            last = n
    return last + 1


class BeatsFor(unittest.TestCase):
    def test_by_hand(self):
        # After 1 bit it is 1/2 off, after 2 none, after 3 1/6, after 5 1/10.
        self.assertEqual(beats_for((1, 0), (1, 2)), 1)
        self.assertEqual(beats_for((1, 0), (49, 100)), 2)
        self.assertEqual(beats_for((1, 0), (1, 6)), 2)
        self.assertEqual(beats_for((1, 0), (16, 100)), 4)
        self.assertEqual(beats_for((1, 0), (1, 10)), 4)
        self.assertEqual(beats_for((1, 0), (99, 1000)), 6)
        self.assertEqual(beats_for((1, 0), (1, 1000)), 500)
        self.assertEqual(beats_for((1, 1, 0, 0), (1, 1000)), 999)

    def test_just_at_the_edge_is_not_off(self):
        # The first bit is 1/3 off the share, the first two 1/6, three 0, four 1/12.
        row = (0, 1, 0)
        self.assertEqual([beats_for(row, e) for e in ((1, 3), (1, 4), (1, 6), (1, 7), (1, 12), (1, 13))], [1, 2, 2, 3, 3, 5])

    def test_rows_that_are_never_off(self):
        for length in (1, 5, 4096):
            for e in ((1, 1000), (1, 1)):
                self.assertEqual(beats_for((0,) * length, e), 1)
                self.assertEqual(beats_for((1,) * length, e), 1)

    def test_of_all_short_rows(self):
        for row in short_rows(6):
            for e in ((1, 1), (1, 2), (1, 3), (2, 7), (1, 6), (1, 12), (3, 100)):
                self.assertEqual(kinds(beats_for(row, e)), kinds(beats_by_the_words(row, e)), (row, e))

    def test_the_least_e(self):
        for row in short_rows(3) + [(1, 1, 1, 0, 0, 0), (0, 1, 1, 0, 1), (0, 0, 0, 0, 0, 1)]:
            for e in ((1, 1000), (1, 999), (2, 999)):
                self.assertEqual(beats_for(row, e), beats_by_the_words(row, e), (row, e))

    def test_long_rows(self):
        row = (1,) * 2048 + (0,) * 2048
        self.assertEqual(beats_for(row, (1, 2)), 1)
        # Behind the 2,048th the first n are (4,096 - n) / 2 too many: more than n / 4 up to 2,730.
        self.assertEqual(beats_for(row, (1, 4)), 2731)
        for e in ((1, 10), (1, 100)):
            self.assertEqual(beats_for(row, e), beats_by_the_words(row, e))
        self.assertEqual(beats_for(UNEVEN, (1, 50)), beats_by_the_words(UNEVEN, (1, 50)))
        found = beats_for(row, (1, 1000))
        self.assertGreater(off_by_the_words(row, 0, found - 1) * 1000, found - 1)
        for n in range(found, found + 5000, 499):
            self.assertLessEqual(off_by_the_words(row, 0, n) * 1000, n)

    def test_it_goes_with_the_worst_part(self):
        for row in short_rows(7):
            off, _ = worst_part(row)
            self.assertLessEqual(beats_for(row, (1, 100)), Fraction(*off) * 100 + 1)

    def test_beyond_the_bounds_no_error_is_raised(self):
        self.assertEqual(beats_for((1, 0), (1, 2000)), 1000)
        self.assertEqual(beats_for((1, 1), (0, 1)), 1)
        self.assertIsNone(beats_for((1, 0), (0, 1)))
        for deed in (worst_part, worst_stretch):
            deed(())
            deed(UNEVEN + UNEVEN)
        self.assertEqual(beats_for((), (1, 2)), 1)


if __name__ == "__main__":
    unittest.main()

import unittest
from fractions import Fraction
from itertools import product

from shareones.errors import Unlike
from shareones.rows import again, behind, both, either, is_row, ones, oneof, pick, round_late, share_of, turned
from things import LONG_ROWS, is_plain_number, kinds, odd_things, rows_of, short_rows


class RowTests(unittest.TestCase):
    def assert_row(self, found, expected):
        """Just these bits: a tuple of plain numbers, for True equals 1."""
        self.assertEqual(kinds(found), kinds(tuple(expected)))

    def assert_refused(self, deed, *handed):
        with self.assertRaises(Unlike) as caught:
            deed(*handed)
        self.assertIs(type(caught.exception), Unlike)


def row_by_the_words(thing):
    if type(thing) is not tuple or not 1 <= len(thing) <= 4096:
        return False
    return all(is_plain_number(bit) and bit in (0, 1) for bit in thing)


class IsRow(RowTests):
    def test_rows(self):
        for row in short_rows(5) + list(LONG_ROWS):
            self.assertIs(is_row(row), True)

    def test_lengths(self):
        self.assertIs(is_row(()), False)
        self.assertIs(is_row((0,)), True)
        self.assertIs(is_row((1,) * 4096), True)
        self.assertIs(is_row((1,) * 4097), False)

    def test_wrong_parts(self):
        for part in (True, False, None, "1", "", 2, -1, (1,), [1], (), 10 ** 5000):
            self.assertIs(is_row((part,)), False)
            self.assertIs(is_row((0, 1, part)), False)
            self.assertIs(is_row((part, 0, 1)), False)
        self.assertIs(is_row((0,) * 4095 + (True,)), False)

    def test_a_list_is_no_row(self):
        self.assertIs(is_row([0, 1]), False)
        self.assertIs(is_row([1]), False)
        self.assertIs(is_row("01"), False)

    def test_asked_of_anything(self):
        for thing in odd_things():
            self.assertIs(is_row(thing), row_by_the_words(thing))


class OneRow(RowTests):
    def test_ones_and_share(self):
        for row in short_rows(7) + list(LONG_ROWS):
            many = row.count(1)
            self.assertEqual(kinds(ones(row)), kinds(many))
            share = Fraction(many, len(row))
            self.assertEqual(kinds(share_of(row)), kinds((share.numerator, share.denominator)))

    def test_share_by_hand(self):
        self.assertEqual(share_of((0,)), (0, 1))
        self.assertEqual(share_of((1,)), (1, 1))
        self.assertEqual(share_of((1, 0, 1, 0, 0, 0)), (1, 3))
        self.assertEqual(share_of((0,) * 4096), (0, 1))
        self.assertEqual(share_of((1,) * 4096), (1, 1))
        self.assertEqual(share_of((1, 0) * 2048), (1, 2))

    def test_turned(self):
        self.assert_row(turned((1, 0, 0)), (0, 1, 1))
        for row in short_rows(6) + list(LONG_ROWS):
            self.assert_row(turned(row), [0 if bit else 1 for bit in row])

    def test_round_late_by_hand(self):
        self.assert_row(round_late((1, 0, 0), 0), (1, 0, 0))
        self.assert_row(round_late((1, 0, 0), 1), (0, 1, 0))
        self.assert_row(round_late((1, 1, 0, 0), 3), (1, 0, 0, 1))
        self.assert_row(round_late((1, 0, 0), 3), (1, 0, 0))
        self.assert_row(round_late((1, 0, 0), 4096), (0, 1, 0))
        self.assert_row(round_late((1,), 4096), (1,))

    def test_round_late(self):
        for row in short_rows(6):
            for by in list(range(14)) + [4095, 4096]:
                self.assert_row(round_late(row, by), [row[(t - by) % len(row)] for t in range(len(row))])
        for row in LONG_ROWS:
            for by in (0, 1, 2048, 4095, 4096):
                self.assert_row(round_late(row, by), [row[(t - by) % 4096] for t in range(4096)])

    def test_behind_by_hand(self):
        self.assert_row(behind((1, 1, 0), ()), (1, 1, 0))
        self.assert_row(behind((1, 1, 0), (0,)), (0, 1, 1))
        self.assert_row(behind((1, 1, 0), (0, 0, 1)), (0, 0, 1))
        self.assert_row(behind((1, 1, 0), (0, 1, 0, 1)), (0, 1, 0))
        self.assert_row(behind((1,), (0,) * 64), (0,))

    def test_behind(self):
        for row in short_rows(4):
            for ahead in [()] + short_rows(6):
                self.assert_row(behind(row, ahead), (list(ahead) + list(row))[:len(row)])
        ahead = (0, 1) * 32
        for row in LONG_ROWS:
            self.assert_row(behind(row, ahead), list(ahead) + list(row[:4032]))

    def test_again(self):
        self.assert_row(again((1, 0), 1), (1, 0))
        self.assert_row(again((1, 0, 0), 3), (1, 0, 0, 1, 0, 0, 1, 0, 0))
        self.assert_row(again((1,), 4096), (1,) * 4096)
        for row in short_rows(5):
            for many in (1, 2, 3, 7):
                self.assert_row(again(row, many), list(row) * many)
        for row in LONG_ROWS:
            self.assert_row(again(row, 1), row)


DEEDS_OF_TWO = (
    (both, lambda a, b: 1 if a == 1 and b == 1 else 0),
    (either, lambda a, b: 1 if a == 1 or b == 1 else 0),
    (oneof, lambda a, b: 1 if a != b else 0),
)


class SeveralRows(RowTests):
    def test_by_hand(self):
        one, other = (0, 0, 1, 1), (0, 1, 0, 1)
        self.assert_row(both(one, other), (0, 0, 0, 1))
        self.assert_row(either(one, other), (0, 1, 1, 1))
        self.assert_row(oneof(one, other), (0, 1, 1, 0))
        self.assert_row(pick((1, 1, 0, 0), one, other), (0, 0, 0, 1))
        self.assert_row(pick((0, 0, 1, 1), one, other), (0, 1, 1, 1))

    def test_two_rows(self):
        for length in range(1, 5):
            for one, other in product(rows_of(length), repeat=2):
                for deed, bit in DEEDS_OF_TWO:
                    self.assert_row(deed(one, other), [bit(a, b) for a, b in zip(one, other)])

    def test_three_rows(self):
        for length in range(1, 4):
            for by, one, other in product(rows_of(length), repeat=3):
                bits = [a if bit == 1 else b for bit, a, b in zip(by, one, other)]
                self.assert_row(pick(by, one, other), bits)

    def test_long_rows(self):
        for one, other in product(LONG_ROWS, repeat=2):
            for deed, bit in DEEDS_OF_TWO:
                self.assert_row(deed(one, other), [bit(a, b) for a, b in zip(one, other)])
            self.assert_row(pick(one, other, turned(other)), [b if a else 1 - b for a, b in zip(one, other)])

    def test_rows_of_different_lengths_are_refused(self):
        for one, other in product(short_rows(3) + [(1,) * 4095, (1,) * 4096], repeat=2):
            if len(one) != len(other):
                for deed, _ in DEEDS_OF_TWO:
                    self.assert_refused(deed, one, other)

    def test_pick_is_refused_whichever_row_is_unlike(self):
        for rows in product([(0, 1), (1, 1, 0), (1,)], repeat=3):
            if len({len(row) for row in rows}) > 1:
                self.assert_refused(pick, *rows)


if __name__ == "__main__":
    unittest.main()

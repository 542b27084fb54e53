"""What point 2 of the document promises of all that is handed in, told and refused."""

import unittest
from copy import deepcopy

from shareones.errors import NoSuch, OnesError, Unlike
from shareones.leaning import lean, lean_ends, leaning_rows, leans, overlap, parting, shows_rows
from shareones.rows import again, behind, both, either, is_row, ones, oneof, pick, round_late, share_of, turned
from shareones.shares import before, fraction, is_share, minus, plus, times
from things import kinds, odd_things

ONE, OTHER, BY = (1, 1, 0, 1, 0, 0), (0, 1, 0, 1, 1, 0), (1, 0, 1, 0, 1, 0)

TOLD = [
    (fraction, (6, -4)), (plus, ((1, 2), (-1, 3))), (minus, ((1, 2), (1, 3))), (times, ((1, 2), (2, 3))),
    (before, ((1, 3), (1, 2))), (is_share, ((1, 2),)), (is_row, (ONE,)), (ones, (ONE,)), (share_of, (ONE,)),
    (turned, (ONE,)), (both, (ONE, OTHER)), (either, (ONE, OTHER)), (oneof, (ONE, OTHER)), (pick, (BY, ONE, OTHER)),
    (round_late, (ONE, 2)), (behind, (ONE, (0, 1))), (again, (ONE, 3)), (overlap, (ONE, OTHER)), (lean, (ONE, OTHER)),
    (leans, (ONE, OTHER)), (parting, (ONE, OTHER)), (lean_ends, (6, 3, 4)), (leaning_rows, (6, 3, 4, 2)),
    (shows_rows, (6, 3, 3, 2, (ONE, OTHER))),
]
SHORT = (1, 0)
REFUSED = [
    (both, (ONE, SHORT), Unlike), (either, (SHORT, ONE), Unlike), (oneof, (ONE, SHORT), Unlike),
    (pick, (BY, ONE, SHORT), Unlike), (overlap, (ONE, SHORT), Unlike), (lean, (SHORT, ONE), Unlike),
    (leans, (ONE, SHORT), Unlike), (parting, (ONE, SHORT), Unlike), (leaning_rows, (6, 3, 4, 0), NoSuch),
]


class Told(unittest.TestCase):
    def test_asked_again_all_is_told_the_same(self):
        first = [kinds(deed(*handed)) for deed, handed in TOLD]
        second = [kinds(deed(*handed)) for deed, handed in reversed(TOLD)]
        self.assertEqual(first, second[::-1])

    def test_nothing_handed_in_is_changed(self):
        for deed, handed in TOLD:
            kept = deepcopy(handed)
            deed(*handed)
            self.assertEqual(kinds(handed), kinds(kept))

    def test_things_asked_of_are_not_changed(self):
        for thing in odd_things():
            kept = deepcopy(thing)
            is_share(thing)
            is_row(thing)
            shows_rows(2, 1, 1, 0, thing)
            self.assertEqual(kinds(thing), kinds(kept))

    def test_a_list_told_is_the_askers_own(self):
        first = leans(ONE, OTHER)
        kept = list(first)
        second = leans(ONE, OTHER)
        self.assertIsNot(first, second)
        second.append("more")
        second[0] = None
        self.assertEqual(first, kept)
        first.clear()
        self.assertEqual(leans(ONE, OTHER), kept)
        self.assertEqual(parting(ONE, OTHER), kept.index(0) if 0 in kept else None)

    def test_lists_are_told_just_where_they_are_named(self):
        for deed, handed in TOLD:
            self.assertIs(isinstance(deed(*handed), list), deed is leans)

    def test_what_was_told_may_be_handed_in_again(self):
        one, other = leaning_rows(6, 3, 4, 2)
        self.assertEqual(overlap(round_late(one, 6), turned(turned(other))), 2)
        self.assertEqual(plus(share_of(one), share_of(turned(one))), (1, 1))
        self.assertTrue(is_share(share_of(pick(one, other, both(one, other)))))


class Refused(unittest.TestCase):
    def test_just_the_class_that_is_told(self):
        for deed, handed, refusal in REFUSED:
            with self.assertRaises(OnesError) as caught:
                deed(*handed)
            self.assertIs(type(caught.exception), refusal)

    def test_a_refusal_changes_nothing(self):
        before_them = [kinds(deed(*handed)) for deed, handed in TOLD]
        for deed, handed, refusal in REFUSED:
            kept = deepcopy(handed)
            for _ in range(2):
                with self.assertRaises(refusal):
                    deed(*handed)
            self.assertEqual(kinds(handed), kinds(kept))
        self.assertEqual([kinds(deed(*handed)) for deed, handed in TOLD], before_them)


if __name__ == "__main__":
    unittest.main()

"""What point 2 of the document promises of all that is handed in, told and refused."""

import unittest
from copy import deepcopy

from shareones.apart import all_apart, apart, common_round, pairs_met, parted_by, shows_lean, slowed, slipped
from shareones.errors import NoSuch, OnesError, Unlike
from shareones.formulas import answer, first_lean, inputs_of, is_formula, plain_share, row_by, true_share
from shareones.leaning import lean, lean_ends, leaning_rows, leans, overlap, parting, shows_rows
from shareones.makers import is_even, is_maker, nearest, round_of, row_of, share_told, top_of, value_at, values_of
from shareones.parts import beats_for, worst_of, worst_part, worst_stretch
from shareones.rows import again, behind, both, either, is_row, ones, oneof, pick, round_late, share_of, turned
from shareones.shares import before, fraction, is_share, minus, plus, times
from things import kinds, odd_things

MAKER, SLIP = ("counter", 6, 5, 1), ("slip", 6, ("turned", 2, 1))
MIXED = ("pick", ("in", 2), ("both", ("in", 1), ("in", 0)), ("less", ("in", 1)))
ONE, OTHER, BY = (1, 1, 0, 1, 0, 0), (0, 1, 0, 1, 1, 0), (1, 0, 1, 0, 1, 0)

TOLD = [
    (fraction, (6, -4)), (plus, ((1, 2), (-1, 3))), (minus, ((1, 2), (1, 3))), (times, ((1, 2), (2, 3))),
    (before, ((1, 3), (1, 2))), (is_share, ((1, 2),)), (is_row, (ONE,)), (ones, (ONE,)), (share_of, (ONE,)),
    (turned, (ONE,)), (both, (ONE, OTHER)), (either, (ONE, OTHER)), (oneof, (ONE, OTHER)), (pick, (BY, ONE, OTHER)),
    (round_late, (ONE, 2)), (behind, (ONE, (0, 1))), (again, (ONE, 3)), (overlap, (ONE, OTHER)), (lean, (ONE, OTHER)),
    (leans, (ONE, OTHER)), (parting, (ONE, OTHER)), (lean_ends, (6, 3, 4)), (leaning_rows, (6, 3, 4, 2)),
    (shows_rows, (6, 3, 3, 2, (ONE, OTHER))),
    (is_maker, (SLIP,)), (round_of, (SLIP,)), (top_of, (SLIP,)), (value_at, (SLIP, 10 ** 9)), (values_of, (SLIP, 30)),
    (row_of, (SLIP, 2, 30)), (share_told, (SLIP, 3)), (is_even, (SLIP,)), (nearest, (SLIP, (2, 5))),
    (common_round, ([MAKER, SLIP],)), (pairs_met, (MAKER, SLIP)), (apart, (MAKER, SLIP)), (apart, (MAKER, MAKER)),
    (shows_lean, (MAKER, MAKER, ("lean", 1, 1, 1, (1, 6)))), (all_apart, ([MAKER, SLIP],)), (slowed, (MAKER, SLIP)),
    (slipped, (MAKER, SLIP)), (parted_by, (MAKER, ("turned", 2, 1))), (worst_part, (ONE,)), (worst_stretch, (ONE,)),
    (worst_of, (SLIP,)), (beats_for, (ONE, (1, 9))), (is_formula, (MIXED,)), (inputs_of, (MIXED,)),
    (row_by, (MIXED, [ONE, OTHER, BY])), (plain_share, (MIXED, [(1, 2), (1, 3), (3, 4)])),
    (true_share, (MIXED, [(1, 2), (1, 3), (3, 4)])), (first_lean, (MIXED,)),
    (answer, (MIXED, [MAKER, SLIP, MAKER], [2, 1, 4])),
]
# What tells a list, or a tuple with one in it.
LISTS = (leans, values_of, pairs_met, inputs_of, first_lean)
SHORT = (1, 0)
REFUSED = [
    (both, (ONE, SHORT), Unlike), (either, (SHORT, ONE), Unlike), (oneof, (ONE, SHORT), Unlike),
    (pick, (BY, ONE, SHORT), Unlike), (overlap, (ONE, SHORT), Unlike), (lean, (SHORT, ONE), Unlike),
    (leans, (ONE, SHORT), Unlike), (parting, (ONE, SHORT), Unlike), (leaning_rows, (6, 3, 4, 0), NoSuch),
    (row_by, (MIXED, [ONE, OTHER, SHORT]), Unlike), (row_by, (("in", 0), [ONE, SHORT]), Unlike),
]


def lists_in(told):
    """All lists that stand in what was told, itself too."""
    found = [told] if isinstance(told, list) else []
    if isinstance(told, (list, tuple)):
        found += [inner for part in told for inner in lists_in(part)]
    return found


class Told(unittest.TestCase):
    def test_asked_again_all_is_told_the_same(self):
        first = [kinds(deed(*handed)) for deed, handed in TOLD]
        second = [kinds(deed(*handed)) for deed, handed in reversed(TOLD)]
        self.assertEqual(first, second[::-1])

    def test_nothing_handed_in_is_changed(self):
        for deed, handed in TOLD:
            kept = deepcopy(handed)
            deed(*handed)
            self.assertEqual(kinds(handed), kinds(kept))

    def test_things_asked_of_are_not_changed(self):
        for thing in odd_things():
            kept = deepcopy(thing)
            is_share(thing)
            is_row(thing)
            shows_rows(2, 1, 1, 0, thing)
            is_maker(thing)
            is_formula(thing)
            shows_lean(MAKER, MAKER, thing)
            self.assertEqual(kinds(thing), kinds(kept))

    def test_a_list_told_is_the_askers_own(self):
        first = leans(ONE, OTHER)
        kept = list(first)
        second = leans(ONE, OTHER)
        self.assertIsNot(first, second)
        second.append("more")
        second[0] = None
        self.assertEqual(first, kept)
        first.clear()
        self.assertEqual(leans(ONE, OTHER), kept)
        self.assertEqual(parting(ONE, OTHER), kept.index(0) if 0 in kept else None)

    def test_each_list_told_is_the_askers_own_and_told_anew(self):
        for deed, handed in TOLD:
            first, second = deed(*handed), deed(*handed)
            kept = kinds(first)
            for inner in lists_in(second):
                inner.append("more")
                inner[0] = None
            self.assertEqual(kinds(first), kept)
            for inner in lists_in(first):
                inner.clear()
            self.assertEqual(kinds(deed(*handed)), kept)

    def test_no_two_lists_are_one_and_the_same(self):
        for deed, handed in TOLD:
            found = lists_in(deed(*handed)) + lists_in(deed(*handed)) + lists_in(handed)
            self.assertEqual(len({id(inner) for inner in found}), len(found))

    def test_what_is_done_later_with_what_was_handed_in_changes_nothing(self):
        for deed, handed in TOLD:
            mine = deepcopy(handed)
            told = deed(*mine)
            kept = kinds(told)
            for inner in lists_in(mine):
                inner.clear()
            self.assertEqual(kinds(told), kept)

    def test_lists_are_told_just_where_they_are_named(self):
        for deed, handed in TOLD:
            told = deed(*handed)
            self.assertEqual(len(lists_in(told)), 1 if deed in LISTS else 0)
            self.assertIs(isinstance(told, list), deed in LISTS and deed is not first_lean)

    def test_what_was_told_may_be_handed_in_again(self):
        one, other = leaning_rows(6, 3, 4, 2)
        self.assertEqual(overlap(round_late(one, 6), turned(turned(other))), 2)
        self.assertEqual(plus(share_of(one), share_of(turned(one))), (1, 1))
        self.assertTrue(is_share(share_of(pick(one, other, both(one, other)))))
        self.assertTrue(shows_lean(MAKER, MAKER, apart(MAKER, MAKER)))
        told = slowed(MAKER, slipped(("turned", 2, 0), ("turned", 2, 1)))
        self.assertTrue(is_maker(told))
        self.assertEqual(row_of(told, nearest(told, share_told(told, 2)), 50), row_of(told, 2, 50))
        self.assertTrue(is_row(row_by(MIXED, [row_of(MAKER, 3, 6), ONE, row_by(MIXED, [ONE, OTHER, BY])])))
        self.assertEqual(plain_share(("less", ("in", 0)), [true_share(("in", 0), [share_of(ONE)])]), (1, 2))
        self.assertEqual(beats_for(one, share_of(one)), beats_for(one, (1, 2)))


class Refused(unittest.TestCase):
    def test_just_the_class_that_is_told(self):
        for deed, handed, refusal in REFUSED:
            with self.assertRaises(OnesError) as caught:
                deed(*handed)
            self.assertIs(type(caught.exception), refusal)

    def test_a_refusal_changes_nothing(self):
        before_them = [kinds(deed(*handed)) for deed, handed in TOLD]
        for deed, handed, refusal in REFUSED:
            kept = deepcopy(handed)
            for _ in range(2):
                with self.assertRaises(refusal):
                    deed(*handed)
            self.assertEqual(kinds(handed), kinds(kept))
        self.assertEqual([kinds(deed(*handed)) for deed, handed in TOLD], before_them)


if __name__ == "__main__":
    unittest.main()

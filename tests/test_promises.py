"""What points 1 and 2 of the document promise of the whole program: of all that is handed in, told and refused."""

import unittest
from copy import deepcopy

from shareones.apart import all_apart, apart, common_round, pairs_met, parted_by, shows_lean, slowed, slipped
from shareones.desk import answers
from shareones.errors import BadSheet, BadText, NoOne, NoRound, NoSuch, OnesError, Unlike
from shareones.formulas import answer, first_lean, inputs_of, is_formula, plain_share, row_by, true_share
from shareones.keeping import Keeper, divided, held_for, kept, kept_round, rooted
from shareones.leaning import lean, lean_ends, leaning_rows, leans, overlap, parting, shows_rows
from shareones.machines import Machine, is_machine, long_share, run, settles, worst_run
from shareones.makers import is_even, is_maker, nearest, round_of, row_of, share_told, top_of, value_at, values_of
from shareones.parts import beats_for, worst_of, worst_part, worst_stretch
from shareones.rows import again, behind, both, either, is_row, ones, oneof, pick, round_late, share_of, turned
from shareones.shares import before, fraction, is_share, minus, plus, times
from shareones.texts import formula_from, formula_text, maker_from, maker_text, row_from, row_text
from things import kinds, odd_things

MAKER, SLIP = ("counter", 6, 5, 1), ("slip", 6, ("turned", 2, 1))
MIXED = ("pick", ("in", 2), ("both", ("in", 1), ("in", 0)), ("less", ("in", 1)))
ONE, OTHER, BY = (1, 1, 0, 1, 0, 0), (0, 1, 0, 1, 1, 0), (1, 0, 1, 0, 1, 0)
PIECES = (("make", MAKER, 2), ("make", SLIP, 1), ("late", 3, (1, 0)), ("oneof", 0, 2), ("keep", 3, 1, 0),
          ("keeper", 4, 5, ("turned", 2, 0), 4, 1))
FAR = tuple(("make", ("counter", size, 1, 0), 3) for size in (61, 59, 7))
SHEET = "maker a counter 8 3 0\nmaker b turned 3 0\nbits c 10\nbits d 1\n\napart a b\nboth e c d\nshare c\nkept c c c\npart c"

TOLD = [
    (fraction, (6, -4)), (plus, ((1, 2), (-1, 3))), (minus, ((1, 2), (1, 3))), (times, ((1, 2), (2, 3))),
    (before, ((1, 3), (1, 2))), (is_share, ((1, 2),)), (is_row, (ONE,)), (ones, (ONE,)), (share_of, (ONE,)),
    (turned, (ONE,)), (both, (ONE, OTHER)), (either, (ONE, OTHER)), (oneof, (ONE, OTHER)), (pick, (BY, ONE, OTHER)),
    (round_late, (ONE, 2)), (behind, (ONE, (0, 1))), (again, (ONE, 3)), (overlap, (ONE, OTHER)), (lean, (ONE, OTHER)),
    (leans, (ONE, OTHER)), (parting, (ONE, OTHER)), (lean_ends, (6, 3, 4)), (leaning_rows, (6, 3, 4, 2)),
    (shows_rows, (6, 3, 3, 2, (ONE, OTHER))),
    (is_maker, (SLIP,)), (round_of, (SLIP,)), (top_of, (SLIP,)), (value_at, (SLIP, 10 ** 9)), (values_of, (SLIP, 30)),
    (row_of, (SLIP, 2, 30)), (share_told, (SLIP, 3)), (is_even, (SLIP,)), (nearest, (SLIP, (2, 5))),
    (common_round, ([MAKER, SLIP],)), (pairs_met, (MAKER, SLIP)), (apart, (MAKER, SLIP)), (apart, (MAKER, MAKER)),
    (shows_lean, (MAKER, MAKER, ("lean", 1, 1, 1, (1, 6)))), (all_apart, ([MAKER, SLIP],)), (slowed, (MAKER, SLIP)),
    (slipped, (MAKER, SLIP)), (parted_by, (MAKER, ("turned", 2, 1))), (worst_part, (ONE,)), (worst_stretch, (ONE,)),
    (worst_of, (SLIP,)), (beats_for, (ONE, (1, 9))), (is_formula, (MIXED,)), (inputs_of, (MIXED,)),
    (row_by, (MIXED, [ONE, OTHER, BY])), (plain_share, (MIXED, [(1, 2), (1, 3), (3, 4)])),
    (true_share, (MIXED, [(1, 2), (1, 3), (3, 4)])), (first_lean, (MIXED,)),
    (answer, (MIXED, [MAKER, SLIP, MAKER], [2, 1, 4])),
    (kept, (ONE, OTHER, 1)), (kept_round, (ONE, OTHER)), (held_for, (OTHER,)), (divided, (ONE, BY, SLIP, 4, 2)),
    (rooted, (ONE, SLIP, 4, 2)), (is_machine, (PIECES,)), (run, (PIECES, 30)), (settles, (PIECES,)), (settles, (FAR,)),
    (long_share, (PIECES, 5)), (worst_run, (PIECES, 5)), (row_text, (ONE,)), (maker_text, (SLIP,)), (formula_text, (MIXED,)),
    (row_from, ("110100",)), (maker_from, (maker_text(SLIP),)), (formula_from, (formula_text(MIXED),)), (answers, (SHEET,)),
]
# What tells a list, or a tuple with one in it.
LISTS = (leans, values_of, pairs_met, inputs_of, first_lean, held_for, run, answers)
SHORT = (1, 0)
REFUSED = [
    (both, (ONE, SHORT), Unlike), (either, (SHORT, ONE), Unlike), (oneof, (ONE, SHORT), Unlike),
    (pick, (BY, ONE, SHORT), Unlike), (overlap, (ONE, SHORT), Unlike), (lean, (SHORT, ONE), Unlike),
    (leans, (ONE, SHORT), Unlike), (parting, (ONE, SHORT), Unlike), (leaning_rows, (6, 3, 4, 0), NoSuch),
    (row_by, (MIXED, [ONE, OTHER, SHORT]), Unlike), (row_by, (("in", 0), [ONE, SHORT]), Unlike),
    (kept, (ONE, SHORT, 0), Unlike), (kept_round, (SHORT, ONE), Unlike), (kept_round, (ONE, (0,) * 6), NoOne),
    (kept_round, (SHORT, (0,) * 6), Unlike), (held_for, ((0,),), NoOne), (divided, (ONE, SHORT, SLIP, 4, 2), Unlike),
    (long_share, (FAR, 0), NoRound), (worst_run, (FAR, 2), NoRound), (row_from, ("",), BadText), (maker_from, ("table",), BadText),
    (formula_from, ("in 6",), BadText), (answers, ("share a",), BadSheet), (answers, (SHEET + "\nround c",), BadSheet),
]


def lists_in(told):
    """All lists that stand in what was told, itself too."""
    found = [told] if isinstance(told, list) else []
    if isinstance(told, (list, tuple)):
        found += [inner for part in told for inner in lists_in(part)]
    return found


class Told(unittest.TestCase):
    def test_asked_again_all_is_told_the_same(self):
        first = [kinds(deed(*handed)) for deed, handed in TOLD]
        second = [kinds(deed(*handed)) for deed, handed in reversed(TOLD)]
        self.assertEqual(first, second[::-1])

    def test_nothing_handed_in_is_changed(self):
        for deed, handed in TOLD:
            before_it = deepcopy(handed)
            deed(*handed)
            self.assertEqual(kinds(handed), kinds(before_it))

    def test_things_asked_of_are_not_changed(self):
        for thing in odd_things():
            before_it = deepcopy(thing)
            is_share(thing)
            is_row(thing)
            shows_rows(2, 1, 1, 0, thing)
            is_maker(thing)
            is_formula(thing)
            shows_lean(MAKER, MAKER, thing)
            is_machine(thing)
            self.assertEqual(kinds(thing), kinds(before_it))

    def test_a_list_told_is_the_askers_own(self):
        first = leans(ONE, OTHER)
        due = list(first)
        second = leans(ONE, OTHER)
        self.assertIsNot(first, second)
        second.append("more")
        second[0] = None
        self.assertEqual(first, due)
        first.clear()
        self.assertEqual(leans(ONE, OTHER), due)
        self.assertEqual(parting(ONE, OTHER), due.index(0) if 0 in due else None)

    def test_each_list_told_is_the_askers_own_and_told_anew(self):
        for deed, handed in TOLD:
            first, second = deed(*handed), deed(*handed)
            due = kinds(first)
            for inner in lists_in(second):
                inner.append("more")
                inner[0] = None
            self.assertEqual(kinds(first), due)
            for inner in lists_in(first):
                inner.clear()
            self.assertEqual(kinds(deed(*handed)), due)

    def test_no_two_lists_are_one_and_the_same(self):
        for deed, handed in TOLD:
            found = lists_in(deed(*handed)) + lists_in(deed(*handed)) + lists_in(handed)
            self.assertEqual(len({id(inner) for inner in found}), len(found))

    def test_what_is_done_later_with_what_was_handed_in_changes_nothing(self):
        for deed, handed in TOLD:
            mine = deepcopy(handed)
            told = deed(*mine)
            due = kinds(told)
            for inner in lists_in(mine):
                inner.clear()
            self.assertEqual(kinds(told), due)

    def test_lists_are_told_just_where_they_are_named(self):
        for deed, handed in TOLD:
            told = deed(*handed)
            self.assertEqual(len(lists_in(told)), 1 if deed in LISTS else 0)
            self.assertIs(isinstance(told, list), deed in LISTS and deed is not first_lean)

    def test_what_was_told_may_be_handed_in_again(self):
        one, other = leaning_rows(6, 3, 4, 2)
        self.assertEqual(overlap(round_late(one, 6), turned(turned(other))), 2)
        self.assertEqual(plus(share_of(one), share_of(turned(one))), (1, 1))
        self.assertTrue(is_share(share_of(pick(one, other, both(one, other)))))
        self.assertTrue(shows_lean(MAKER, MAKER, apart(MAKER, MAKER)))
        told = slowed(MAKER, slipped(("turned", 2, 0), ("turned", 2, 1)))
        self.assertTrue(is_maker(told))
        self.assertEqual(row_of(told, nearest(told, share_told(told, 2)), 50), row_of(told, 2, 50))
        self.assertTrue(is_row(row_by(MIXED, [row_of(MAKER, 3, 6), ONE, row_by(MIXED, [ONE, OTHER, BY])])))
        self.assertEqual(plain_share(("less", ("in", 0)), [true_share(("in", 0), [share_of(ONE)])]), (1, 2))
        self.assertEqual(beats_for(one, share_of(one)), beats_for(one, (1, 2)))
        self.assertEqual(share_of(kept_round(*run(PIECES, 30)[:2])), share_of(kept_round(row_of(MAKER, 2, 30), row_of(SLIP, 1, 30))))
        out, fed, at, lost = divided(ONE, BY, SLIP, 4, 2)
        _, fed_again, at_again, (ups, downs) = rooted(kept(out, fed, 0), SLIP, 4, at)
        self.assertEqual(ones(kept(out, fed, 0)) - ones(fed_again), at_again - at + ups - downs)
        self.assertEqual(worst_part(row_from(row_text(run(PIECES, 24)[2]))), worst_part(run(PIECES, 24)[2]))
        self.assertTrue(is_maker(maker_from(maker_text(slowed(MAKER, SLIP)))))
        self.assertTrue(is_machine(PIECES + (("make", maker_from("table 1 2"), nearest(MAKER, long_share(PIECES, 5))),)))


class Objects(unittest.TestCase):
    """What is promised of Keepers and Machines beside what their own tests look at."""

    def test_they_go_on_alike_however_often_they_are_asked(self):
        quiet, asked = Machine(PIECES), Machine(PIECES)
        quiet_keeper, asked_keeper = Keeper(3, 1), Keeper(3, 1)
        for up, down in zip(ONE * 4, OTHER * 4):
            for _ in range(2):
                told = (asked.beats_now(), asked.ones_now(), asked_keeper.at_now(), asked_keeper.lost_now(), asked_keeper.beats_now())
                again_told = (asked.beats_now(), asked.ones_now(), asked_keeper.at_now(), asked_keeper.lost_now(),
                              asked_keeper.beats_now())
                self.assertEqual(kinds(told), kinds(again_told))
                asked.ones_now().clear()
            self.assertEqual(asked.beat(), quiet.beat())
            self.assertEqual(asked_keeper.beat(up, down), quiet_keeper.beat(up, down))
        self.assertEqual(asked.ones_now(), quiet.ones_now())
        self.assertEqual(asked_keeper.lost_now(), quiet_keeper.lost_now())

    def test_what_is_done_elsewhere_does_not_touch_them(self):
        machine, keeper = Machine(PIECES), Keeper(2, 2)
        first = [machine.beat() for _ in range(7)]
        keeper.beat(1, 0)
        ahead = (machine.beats_now(), machine.ones_now(), keeper.at_now(), keeper.lost_now(), keeper.beats_now())
        for deed, handed in TOLD:
            deed(*handed)
        for deed, handed, refusal in REFUSED:
            with self.assertRaises(refusal):
                deed(*handed)
        now = (machine.beats_now(), machine.ones_now(), keeper.at_now(), keeper.lost_now(), keeper.beats_now())
        self.assertEqual(kinds(now), kinds(ahead))
        rows = run(PIECES, 9)
        self.assertEqual(first + [machine.beat(), machine.beat()], [tuple(row[t] for row in rows) for t in range(9)])

    def test_two_lists_of_an_object_are_never_one(self):
        machine = Machine(PIECES)
        told = [machine.ones_now(), machine.ones_now(), Machine(PIECES).ones_now()]
        self.assertEqual(len({id(inner) for inner in told}), 3)
        told[0].append(9)
        self.assertEqual(told[1:] + [machine.ones_now()], [[0] * len(PIECES)] * 3)


class Interface(unittest.TestCase):
    def test_each_function_of_the_interface_is_told_of_here(self):
        named = {deed.__name__ for deed, _ in TOLD}
        listed = """fraction plus minus times before is_share is_row ones share_of turned both either oneof pick round_late behind
            again overlap lean leans parting lean_ends leaning_rows shows_rows is_maker round_of top_of value_at values_of row_of
            share_told is_even nearest common_round pairs_met apart shows_lean all_apart slowed slipped parted_by worst_part
            worst_stretch worst_of beats_for is_formula inputs_of row_by plain_share true_share first_lean answer kept kept_round
            held_for divided rooted is_machine run settles long_share worst_run row_text maker_text formula_text row_from
            maker_from formula_from answers"""
        self.assertEqual(named, set(listed.split()))


class TheWhole(unittest.TestCase):
    """Point 1: what is promised of the whole, each on one example that goes through several files."""

    def test_rows_of_makers_that_are_apart_meet_exactly(self):
        makers = [("turned", 3, 1), slipped(("turned", 3, 1), ("counter", 8, 3, 0)), ("counter", 5, 2, 1)]
        self.assertEqual(answer(MIXED, makers, [3, 5, 2])[0], true_share(MIXED, [(3, 8), (5, 8), (2, 5)]))
        self.assertIs(answer(MIXED, makers, [3, 5, 2])[2], True)

    def test_two_rows_and_a_count_show_that_two_makers_lean(self):
        word, k, other_k, met, due = apart(MAKER, MAKER)
        self.assertEqual((word, overlap(row_of(MAKER, k, 6), row_of(MAKER, other_k, 6))), ("lean", met))
        self.assertNotEqual(due, (met, 1))

    def test_how_far_a_part_is_off_is_reached(self):
        off, k, n = worst_of(SLIP)
        row = row_of(SLIP, k, round_of(SLIP))
        self.assertEqual(worst_part(row), (off, n))
        self.assertIn(minus((ones(row[:n]), 1), times((n, 1), share_of(row))), (off, minus((0, 1), off)))

    def test_what_is_kept_has_the_quotients_share(self):
        one, other = ("register", 4, 9, 1), ("turned", 3, 0)
        lower, c = row_of(one, 6, 120), row_of(other, 3, 120)
        self.assertEqual(share_of(kept_round(both(lower, c), lower)), (3, 8))
        self.assertEqual(times(share_of(lower), (3, 8)), share_of(both(lower, c)))

    def test_a_machines_share_in_the_long_run_and_how_far_beats_are_off_it(self):
        for number in range(len(PIECES)):
            share, (off, n) = long_share(PIECES, number), worst_run(PIECES, number)
            row = run(PIECES, 600)[number]
            offs = [minus((ones(row[:many]), 1), times((many, 1), share)) for many in range(601)]
            sizes = [one if one[0] >= 0 else minus((0, 1), one) for one in offs]
            self.assertEqual(sizes[n], off)
            self.assertFalse(any(before(off, size) for size in sizes))


class Refused(unittest.TestCase):
    def test_just_the_class_that_is_told(self):
        for deed, handed, refusal in REFUSED:
            with self.assertRaises(OnesError) as caught:
                deed(*handed)
            self.assertIs(type(caught.exception), refusal)

    def test_a_refusal_changes_nothing(self):
        before_them = [kinds(deed(*handed)) for deed, handed in TOLD]
        for deed, handed, refusal in REFUSED:
            mine = deepcopy(handed)
            for _ in range(2):
                with self.assertRaises(refusal):
                    deed(*handed)
            self.assertEqual(kinds(handed), kinds(mine))
        self.assertEqual([kinds(deed(*handed)) for deed, handed in TOLD], before_them)


if __name__ == "__main__":
    unittest.main()

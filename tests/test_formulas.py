import unittest
from fractions import Fraction
from itertools import product

from shareones.apart import all_apart, common_round
from shareones.errors import OnesError, Unlike
from shareones.formulas import answer, first_lean, inputs_of, is_formula, plain_share, row_by, true_share
from shareones.makers import round_of, row_of, share_told
from shareones.rows import share_of
from things import LONG_ROWS, PLAIN, SMALL_MAKERS, chain, comb, kinds, nested, odd_things, rows_of, with_other_parts
from words import as_tuple

SIDES = {"less": 1, "both": 2, "either": 2, "oneof": 2, "pick": 3}
IN = [("in", i) for i in range(6)]


def built(parts, words=tuple(SIDES)):
    """All formulas of one of these words over these parts."""
    return [(word, *sides) for word in words for sides in product(parts, repeat=SIDES[word])]


ONE_WORD = built(IN[:3])
TWO_WORDS = built(IN[1:2] + ONE_WORD[::4])
THREE_WORDS = built(IN[4:] + TWO_WORDS[5::97])
# Of those with three words within one another some have more parts than a formula may have.
FORMULAS = IN + ONE_WORD + TWO_WORDS[::13] + [told for told in THREE_WORDS[::331] if str(told).count("(") <= 24]


def parts_by_the_words(formula):
    """All parts, as they are written from the left."""
    if formula[0] == "in":
        return [formula]
    return [formula] + [part for side in formula[1:] for part in parts_by_the_words(side)]


def depth_by_the_words(formula):
    if formula[0] == "in":
        return 1
    return 1 + max(depth_by_the_words(side) for side in formula[1:])


def inputs_by_the_words(formula):
    return {part[1] for part in parts_by_the_words(formula) if part[0] == "in"}


def bit_by_the_words(formula, bits):
    word, *sides = formula
    if word == "in":
        return bits[sides[0]]
    told = [bit_by_the_words(side, bits) for side in sides]
    if word == "less":
        return 1 - told[0]
    if word == "both":
        return int(told == [1, 1])
    if word == "either":
        return int(told != [0, 0])
    if word == "oneof":
        return int(told[0] != told[1])
    return told[1] if told[0] == 1 else told[2]


def plain_by_the_words(formula, shares):
    word, *sides = formula
    if word == "in":
        return shares[sides[0]]
    told = [plain_by_the_words(side, shares) for side in sides]
    if word == "less":
        return 1 - told[0]
    x, y = told[:2]
    if word == "both":
        return x * y
    if word == "either":
        return x + y - x * y
    if word == "oneof":
        return x + y - 2 * x * y
    return x * y + (1 - x) * told[2]


def true_by_the_words(formula, shares):
    named = sorted(inputs_by_the_words(formula))
    told = Fraction(0)
    for bits in product((0, 1), repeat=len(named)):
        choice = dict(zip(named, bits))
        if bit_by_the_words(formula, choice) == 1:
            weight = Fraction(1)
            for i in named:
                weight *= shares[i] if choice[i] == 1 else 1 - shares[i]
            told += weight
    return told


def lean_by_the_words(formula):
    for number, part in enumerate(parts_by_the_words(formula)):
        if part[0] != "in":
            sides = [inputs_by_the_words(side) for side in part[1:]]
            found = [i for i in range(6) if sum(i in side for side in sides) >= 2]
            if found:
                return (number, found)
    return None


def formula_by_the_words(thing):
    def is_part(part):
        if type(part) is not tuple or not part or type(part[0]) is not str:
            return False
        if part[0] == "in":
            return len(part) == 2 and type(part[1]) is int and 0 <= part[1] <= 5
        return len(part) - 1 == SIDES.get(part[0]) and all(is_part(side) for side in part[1:])
    return is_part(thing) and len(parts_by_the_words(thing)) <= 24 and depth_by_the_words(thing) <= 8


SHARES = (
    [(0, 1)] * 6, [(1, 1)] * 6, [(1, 2)] * 6, [(1, 2), (1, 3), (3, 4), (2, 5), (1, 7), (9, 10)],
    [(0, 1), (1, 1), (5, 8), (1, 1), (0, 1), (4095, 4096)],
)


def fractions_of(shares):
    return [Fraction(*share) for share in shares]


class IsFormula(unittest.TestCase):
    def assert_formulas(self, things):
        for thing in things:
            self.assertIs(is_formula(thing), True, thing)

    def assert_no_formulas(self, things):
        for thing in things:
            self.assertIs(is_formula(thing), False, thing)

    def test_formulas(self):
        self.assert_formulas(FORMULAS)
        self.assert_formulas([("in", 0), ("in", 5), ("pick", ("in", 0), ("less", ("in", 5)), ("oneof", ("in", 1), ("in", 1)))])

    def test_inputs_at_their_bounds(self):
        self.assert_no_formulas([("in", -1), ("in", 6), ("in", True), ("in", False), ("in", None), ("in", "0"), ("in", (0,))])
        self.assert_no_formulas([("in",), ("in", 0, 0), ("in", [0]), ("in", ("in", 0)), ("in", 10 ** 5000), ["in", 0]])

    def test_24_parts_and_25(self):
        less = ("less", comb(23))
        self.assertEqual((len(parts_by_the_words(comb(23))), len(parts_by_the_words(less))), (23, 24))
        self.assertEqual(depth_by_the_words(less), 6)
        self.assert_formulas([comb(23), less, ("less", ("less", comb(21))), ("pick", comb(11), comb(11), ("in", 5))])
        self.assertEqual(depth_by_the_words(comb(25)), 5)
        self.assert_no_formulas([comb(25), ("less", ("less", comb(23))), ("less", less), comb(27)])
        self.assert_no_formulas([("pick", comb(11), comb(11), ("less", ("in", 5))), ("both", comb(13), comb(11))])

    def test_8_within_one_another_and_9(self):
        self.assertEqual(depth_by_the_words(chain(8)), 8)
        self.assert_formulas([chain(7), chain(8), ("both", ("in", 0), chain(7)), ("pick", chain(7), chain(7), chain(7))])
        self.assert_no_formulas([chain(9), chain(11), ("both", ("in", 0), chain(8)), ("both", chain(8), ("in", 0))])
        self.assert_no_formulas([("pick", ("in", 0), ("in", 0), chain(8)), ("pick", ("in", 0), chain(8), ("in", 0))])

    def test_words_and_parts(self):
        one = ("in", 0)
        self.assert_no_formulas([("not", one), ("Less", one), ("", one), ("turned", one), ("less",), ("less", one, one)])
        self.assert_no_formulas([("both", one), ("both", one, one, one), ("either", one), ("either", one, one, one)])
        self.assert_no_formulas([("oneof", one), ("oneof", one, one, one), ("pick", one, one), ("pick", one, one, one, one)])
        self.assert_no_formulas([("less", ["in", 0]), ["less", one], ("both", one, None), ("both", one, 0), ("less", "in")])
        self.assert_no_formulas([(), "in", None, 0, True, (["in"], 0), (("in",), 0), (None, 0), (0, 0), ("less", ())])

    def test_asked_of_anything(self):
        self.assert_no_formulas(odd_things())
        self.assert_no_formulas([nested(("in", 0), 11, tuple), nested(("in", 0), 11, list), nested("less", 12, tuple)])
        wide = ("in", 0)
        for _ in range(11):
            wide = ("pick", wide, wide, wide)
        self.assert_no_formulas([wide])

    def test_asked_of_what_is_nearly_a_formula(self):
        others = PLAIN + (5, 6, (), [], "in", "less", "both", "pick", ("in", 0), ["in", 0], ("in", 6), ("less", ("in", 1)))
        for formula in ONE_WORD[::3] + TWO_WORDS[::101] + [chain(8), ("less", comb(23))]:
            for thing in with_other_parts(formula, others):
                self.assertIs(is_formula(thing), formula_by_the_words(thing), thing)


class Inputs(unittest.TestCase):
    def test_by_hand(self):
        self.assertEqual(inputs_of(("in", 5)), [5])
        self.assertEqual(inputs_of(("pick", ("in", 5), ("less", ("in", 0)), ("both", ("in", 3), ("in", 5)))), [0, 3, 5])
        self.assertEqual(inputs_of(("oneof", ("in", 2), ("in", 2))), [2])
        self.assertEqual(inputs_of(comb(23)), [0, 1, 2, 3, 4, 5])

    def test_of_all(self):
        for formula in FORMULAS:
            self.assertEqual(kinds(inputs_of(formula)), kinds(sorted(inputs_by_the_words(formula))))


class RowBy(unittest.TestCase):
    def test_by_hand(self):
        rows = [(1, 1, 0, 0, 1), (1, 0, 1, 0, 0), (0, 1, 1, 0, 1)]
        a, b, c = IN[:3]
        self.assertEqual(row_by(a, rows), rows[0])
        self.assertEqual(row_by(("less", b), rows), (0, 1, 0, 1, 1))
        self.assertEqual(row_by(("both", a, b), rows), (1, 0, 0, 0, 0))
        self.assertEqual(row_by(("either", a, b), rows), (1, 1, 1, 0, 1))
        self.assertEqual(row_by(("oneof", a, b), rows), (0, 1, 1, 0, 1))
        self.assertEqual(row_by(("pick", a, b, c), rows), (1, 0, 1, 0, 0))
        self.assertEqual(row_by(("pick", c, a, b), rows), (1, 1, 0, 0, 1))
        self.assertEqual(row_by(("oneof", a, a), rows), (0, 0, 0, 0, 0))
        self.assertEqual(row_by(("both", ("less", a), ("either", b, c)), rows), (0, 0, 1, 0, 0))

    def test_of_all_choices_of_bits(self):
        choices = rows_of(6)
        rows = [tuple(choice[i] for choice in choices) for i in range(6)]
        for formula in FORMULAS + [comb(23), chain(8)]:
            due = tuple(bit_by_the_words(formula, choice) for choice in choices)
            self.assertEqual(kinds(row_by(formula, rows)), kinds(due), formula)

    def test_rows_of_one_bit_and_of_4096(self):
        for formula in FORMULAS[::5]:
            for bits in rows_of(6)[::5]:
                self.assertEqual(row_by(formula, [(bit,) for bit in bits]), (bit_by_the_words(formula, bits),))
        rows = [LONG_ROWS[at % len(LONG_ROWS)] for at in (4, 2, 3, 0, 1, 4)]
        for formula in (comb(23), ("pick", ("in", 0), ("in", 1), ("less", ("in", 2)))):
            due = tuple(bit_by_the_words(formula, bits) for bits in zip(*rows))
            self.assertEqual(row_by(formula, rows), due)

    def test_just_more_rows_than_the_greatest_input(self):
        self.assertEqual(row_by(("both", ("in", 0), ("in", 1)), [(1, 0), (1, 1)]), (1, 0))
        self.assertEqual(row_by(("in", 0), [(1, 0)]), (1, 0))

    def test_refused_where_not_all_rows_are_of_one_length(self):
        short, long = (1, 0), (1, 0, 1)
        refused = [
            (("both", ("in", 0), ("in", 1)), [short, long]), (("either", ("in", 0), ("in", 1)), [long, short]),
            (("oneof", ("in", 1), ("in", 0)), [short, long]), (("in", 0), [short, long]), (("in", 1), [short, long]),
            (("less", ("in", 0)), [short, short, long]), (("in", 0), [short] * 5 + [long]),
            (("pick", ("in", 0), ("in", 1), ("in", 2)), [short, short, short, long]),
            (("both", ("in", 0), ("in", 0)), [(1,) * 4096, (1,) * 4095]), (("in", 0), [short] * 9 + [long]),
        ]
        for formula, rows in refused:
            with self.assertRaises(OnesError) as caught:
                row_by(formula, rows)
            self.assertIs(type(caught.exception), Unlike)
            self.assertEqual(len(row_by(formula, [short] * len(rows))), 2)


class Shares(unittest.TestCase):
    def test_plain_by_hand(self):
        shares = [(1, 2), (1, 3), (3, 4)]
        a, b, c = IN[:3]
        self.assertEqual(plain_share(c, shares), (3, 4))
        self.assertEqual(plain_share(("less", b), shares), (2, 3))
        self.assertEqual(plain_share(("both", a, b), shares), (1, 6))
        self.assertEqual(plain_share(("either", a, b), shares), (2, 3))
        self.assertEqual(plain_share(("oneof", b, c), shares), (7, 12))
        self.assertEqual(plain_share(("pick", b, c, a), shares), (7, 12))
        self.assertEqual(plain_share(("pick", a, b, c), shares), (13, 24))
        self.assertEqual(plain_share(("both", a, a), shares), (1, 4))
        self.assertEqual(plain_share(("oneof", b, b), shares), (4, 9))

    def test_true_by_hand(self):
        shares = [(1, 2), (1, 3), (3, 4)]
        a, b, c = IN[:3]
        self.assertEqual(true_share(("both", a, a), shares), (1, 2))
        self.assertEqual(true_share(("oneof", b, b), shares), (0, 1))
        self.assertEqual(true_share(("either", b, ("less", b)), shares), (1, 1))
        self.assertEqual(true_share(("both", c, ("either", c, a)), shares), (3, 4))
        self.assertEqual(true_share(("pick", a, a, b), shares), (2, 3))
        self.assertEqual(true_share(("both", a, b), shares), (1, 6))

    def test_of_all(self):
        for formula in FORMULAS + [comb(23), chain(8), ("less", comb(23))]:
            for shares in SHARES:
                told = fractions_of(shares)
                self.assertEqual(kinds(plain_share(formula, shares)), kinds(as_tuple(plain_by_the_words(formula, told))))
                self.assertEqual(kinds(true_share(formula, shares)), kinds(as_tuple(true_by_the_words(formula, told))))

    def test_just_as_many_shares_as_needed(self):
        for formula in FORMULAS[::9]:
            needed = inputs_of(formula)[-1] + 1
            for deed in (plain_share, true_share):
                self.assertEqual(deed(formula, SHARES[3][:needed]), deed(formula, SHARES[3]))


class FirstLean(unittest.TestCase):
    def test_by_hand(self):
        a, b, c = IN[:3]
        self.assertIsNone(first_lean(a))
        self.assertIsNone(first_lean(("less", ("less", a))))
        self.assertIsNone(first_lean(("pick", a, b, c)))
        self.assertEqual(first_lean(("both", a, a)), (0, [0]))
        self.assertEqual(first_lean(("less", ("oneof", b, b))), (1, [1]))
        self.assertEqual(first_lean(("pick", a, b, b)), (0, [1]))
        self.assertEqual(first_lean(("pick", a, b, a)), (0, [0]))
        self.assertEqual(first_lean(("pick", c, c, c)), (0, [2]))
        self.assertEqual(first_lean(("both", ("either", c, a), ("either", a, c))), (0, [0, 2]))
        self.assertEqual(first_lean(("both", ("either", c, a), ("either", b, b))), (4, [1]))
        self.assertEqual(first_lean(("both", ("either", c, c), ("either", b, b))), (1, [2]))
        self.assertEqual(first_lean(("pick", a, ("less", b), ("less", ("both", c, c)))), (5, [2]))
        self.assertEqual(first_lean(("both", ("oneof", a, a), ("either", b, a))), (0, [0]))

    def test_of_all(self):
        found = [first_lean(formula) for formula in FORMULAS]
        self.assertGreater(found.count(None), 20)
        for formula, told in zip(FORMULAS, found):
            self.assertEqual(kinds(told), kinds(lean_by_the_words(formula)), formula)

    def test_where_there_is_none_plain_share_is_true_share(self):
        for formula in FORMULAS + [comb(11), ("less", comb(11)), chain(8)]:
            if first_lean(formula) is None:
                for shares in SHARES:
                    self.assertEqual(plain_share(formula, shares), true_share(formula, shares))


class Answer(unittest.TestCase):
    def test_by_hand(self):
        a, b = IN[:2]
        two, three = ("counter", 2, 1, 0), ("counter", 3, 1, 0)
        self.assertEqual(answer(("both", a, b), [two, three], [1, 2]), ((1, 3), (1, 3), True))
        self.assertEqual(answer(("both", a, b), [two, two], [1, 1]), ((1, 2), (1, 4), False))
        self.assertEqual(answer(("both", a, b), [two, ("late", 1, two)], [1, 1]), ((0, 1), (1, 4), False))
        self.assertEqual(answer(("oneof", a, a), [two], [1]), ((0, 1), (0, 1), True))
        self.assertEqual(answer(("less", a), [three], [0]), ((1, 1), (1, 1), True))
        self.assertEqual(answer(a, [three], [64]), ((1, 1), (1, 1), True))

    def test_all_makers_count_also_those_not_named(self):
        two = ("counter", 2, 1, 0)
        self.assertEqual(answer(("in", 0), [two, two], [1, 1]), ((1, 2), (1, 2), False))
        self.assertEqual(answer(("in", 0), [two, ("counter", 3, 1, 0)], [1, 1]), ((1, 2), (1, 2), True))

    def test_each_two_apart_is_not_enough(self):
        three = [("table", (0, 0, 1, 1)), ("table", (0, 1, 0, 1)), ("table", (0, 1, 1, 0))]
        formula = ("both", ("in", 0), ("both", ("in", 1), ("in", 2)))
        self.assertEqual(answer(formula, three, [1, 1, 1]), ((1, 4), (1, 8), False))

    def test_common_rounds_of_1_and_of_4096(self):
        one = ("counter", 64, 1, 0)
        formula = ("pick", ("in", 0), ("in", 1), ("less", ("in", 0)))
        share = as_tuple(true_by_the_words(formula, [Fraction(5, 64), Fraction(33, 64)]))
        self.assertEqual(answer(formula, [one, ("slow", 64, one)], [5, 33]), (share, share, True))
        self.assertEqual(answer(formula, [one, ("slip", 64, one)], [5, 33]), (share, share, True))
        self.assertEqual(answer(("in", 0), [("table", (7,))], [8]), ((1, 1), (1, 1), True))

    def test_as_it_is_put_together(self):
        formulas = ONE_WORD[::5] + TWO_WORDS[::211]
        for at, makers in enumerate(product(SMALL_MAKERS[::3], SMALL_MAKERS[1::4], SMALL_MAKERS[2::5])):
            makers = list(makers)
            for ks in ([1, 1, 1], [2, 3, 1], [0, 2, 64]):
                formula = formulas[at % len(formulas)]
                length = common_round(makers)
                rows = [row_of(maker, k, length) for maker, k in zip(makers, ks)]
                row = tuple(bit_by_the_words(formula, bits) for bits in zip(*rows))
                shares = [Fraction(*share_told(maker, k)) for maker, k in zip(makers, ks)]
                due = (share_of(row), as_tuple(true_by_the_words(formula, shares)), all_apart(makers))
                self.assertEqual(kinds(answer(formula, makers, ks)), kinds(due), (formula, makers, ks))

    def test_where_it_fits_share_is_due(self):
        makers = [("counter", 3, 2, 1), ("turned", 2, 1), ("register", 3, 5, 1), ("table", (0, 0, 4, 2, 1)), ("table", (1,))]
        makers.append(("late", 5, ("counter", 1, 1, 0)))
        self.assertEqual(max(round_of(maker) for maker in makers), 7)
        for at, formula in enumerate(FORMULAS[::3] + [comb(23)]):
            ks = [at % 4, at % 5, at % 8, at % 6, at % 3, 1]
            share, due, fits = answer(formula, makers, ks)
            self.assertIs(fits, True)
            self.assertEqual(share, due)


class BeyondTheBounds(unittest.TestCase):
    def test_no_error_is_raised(self):
        shares = [(1, 2)] * 9
        for formula in (comb(49), chain(60), ("both", ("in", 7), ("in", 8))):
            self.assertIs(is_formula(formula), False)
            self.assertEqual(len(row_by(formula, [(1, 0, 1)] * 9)), 3)
            self.assertEqual(len(plain_share(formula, shares)), 2)
            self.assertEqual(len(true_share(formula, shares)), 2)
            first_lean(formula)

    def test_nor_where_a_list_is_too_short(self):
        formula = ("pick", ("in", 2), ("in", 0), ("less", ("in", 5)))
        for many in range(4):
            self.assertEqual(len(row_by(formula, [(1, 0, 1)] * many)), 3 if many else 0)
            self.assertEqual(len(plain_share(formula, [(1, 2)] * many)), 2)
            self.assertEqual(len(true_share(formula, [(1, 2)] * many)), 2)
            self.assertEqual(len(answer(formula, [("counter", 3, 1, 0)] * many, [1] * many)), 3)
            self.assertEqual(len(answer(formula, [("counter", 3, 1, 0)] * 6, [1] * many)), 3)
        self.assertEqual(len(row_by(("in", -1), [(1, 0)])), 2)
        self.assertEqual(len(plain_share(("in", -7), [(1, 2)])), 2)
        self.assertEqual(len(true_share(("in", -7), [(1, 2)])), 2)


if __name__ == "__main__":
    unittest.main()

import re
import unittest

from shareones.errors import BadText, OnesError
from shareones.formulas import is_formula
from shareones.makers import is_maker
from shareones.texts import formula_from, formula_text, maker_from, maker_text, row_from, row_text
from things import LONG_ROWS, MAKERS, SMALL_MAKERS, UNEVEN_TABLE, chain, comb, kinds, short_rows
from words import maker_by_the_words

NUMBER = r"(?:0|[1-9][0-9]*)"
SIDES = {"less": 1, "both": 2, "either": 2, "oneof": 2, "pick": 3}
IN = [("in", i) for i in range(6)]
PICK = ("pick", ("in", 5), ("less", ("oneof", ("in", 0), ("in", 0))), ("either", ("in", 4), ("both", ("in", 1), ("in", 2))))
FORMULAS = IN + [("less", IN[3]), ("both", IN[0], ("less", IN[1])), ("either", IN[5], IN[5]), ("oneof", IN[2], IN[1]), PICK]


def read_around(text):
    """The thing whose text it is, be it within a maker's bounds or not, None where there is none."""
    around = re.fullmatch(rf"(slow|slip|late) ({NUMBER}) \((.*)\)", text)
    if around:
        return (around[1], int(around[2]), read_around(around[3]))
    if re.fullmatch(rf"table(?: {NUMBER})+", text):
        return ("table", tuple(int(word) for word in text.split(" ")[1:]))
    if re.fullmatch(rf"(?:counter|turned|register)(?: {NUMBER})+", text):
        word, *numbers = text.split(" ")
        return (word, *[int(number) for number in numbers])
    return None


def read_maker(text):
    """The maker whose text it is by the words of point 16, None where there is none."""
    thing = read_around(text)
    return thing if maker_by_the_words(thing) else None


def read_formula(text):
    """The formula whose text it is by the words of point 16, None where there is none."""
    thing, rest = read_part(text)
    return thing if rest == "" and is_formula(thing) else None


def read_part(text):
    """(the part that a text begins with, the rest), or (None, None)."""
    found = re.match(rf"in ({NUMBER})", text)
    if found:
        return ("in", int(found[1])), text[found.end():]
    found = re.match(r"less|both|either|oneof|pick", text)
    if not found:
        return None, None
    sides, rest = [], text[found.end():]
    for _ in range(SIDES[found[0]]):
        if not rest.startswith(" ("):
            return None, None
        side, rest = read_part(rest[2:])
        if side is None or not rest.startswith(")"):
            return None, None
        sides.append(side)
        rest = rest[1:]
    return (found[0], *sides), rest


def nearly(text):
    """The text with each of its signs left out, told twice, put out for another one, and with others put in."""
    for at in range(len(text) + 1):
        yield text[:at] + text[at + 1:]
        for sign in " ()0129-+_.,\n\tax":
            yield text[:at] + sign + text[at:]
            yield text[:at] + sign + text[at + 1:]


class Refusing(unittest.TestCase):
    def assert_refused(self, deed, texts):
        for text in texts:
            with self.assertRaises(OnesError) as caught:
                deed(text)
            self.assertIs(type(caught.exception), BadText, text[:100])

    def assert_read_by_the_words(self, deed, read, texts):
        found = 0
        for text in texts:
            due = read(text)
            if due is None:
                self.assert_refused(deed, [text])
            else:
                found += 1
                self.assertEqual(kinds(deed(text)), kinds(due), text)
        return found


class Rows(Refusing):
    def test_by_hand(self):
        self.assertEqual(row_text((1, 0, 0, 1, 1)), "10011")
        self.assertEqual(row_text((0,)), "0")
        self.assertEqual(row_from("10011"), (1, 0, 0, 1, 1))
        self.assertEqual(row_from("1"), (1,))

    def test_each_rows_text_read_again_is_that_row(self):
        for row in short_rows(8) + list(LONG_ROWS):
            text = row_text(row)
            self.assertIs(type(text), str)
            self.assertEqual((len(text), text.count("1")), (len(row), sum(row)))
            self.assertEqual(kinds(row_from(text)), kinds(row))

    def test_no_rows_texts(self):
        self.assert_refused(row_from, ["", " ", "\n", " 1", "1 ", "1 0", "1  0", "2", "10a", "-1", "+1", "(1)", "1,0", "0b1"])
        self.assert_refused(row_from, ["1\n", "\n1", "1\n0", "row", "True", "01_1", "0.1", "l", "O", "1\t0", "12", "~"])

    def test_4096_bits_and_one_more(self):
        self.assertEqual(row_from("10" * 2048), (1, 0) * 2048)
        self.assert_refused(row_from, ["1" * 4097, "0" * 4097, "10" * 5000, "1" * 20000])

    def test_what_is_nearly_a_rows_text(self):
        texts = [near for text in ("0", "1", "0110") for near in nearly(text)]

        def read(text):
            return tuple(int(sign) for sign in text) if re.fullmatch(r"[01]+", text) else None
        self.assertGreater(self.assert_read_by_the_words(row_from, read, texts), 20)


class Makers(Refusing):
    def test_by_hand(self):
        told = {
            "counter 8 3 0": ("counter", 8, 3, 0),
            "turned 3 5": ("turned", 3, 5),
            "register 6 33 1": ("register", 6, 33, 1),
            "table 7": ("table", (7,)),
            "table 0 63 5 5": ("table", (0, 63, 5, 5)),
            "slip 8 (counter 8 3 0)": ("slip", 8, ("counter", 8, 3, 0)),
            "slow 64 (table 1 2)": ("slow", 64, ("table", (1, 2))),
            "late 0 (turned 1 0)": ("late", 0, ("turned", 1, 0)),
            "slow 2 (slip 3 (late 64 (register 2 3 1)))": ("slow", 2, ("slip", 3, ("late", 64, ("register", 2, 3, 1)))),
        }
        for text, maker in told.items():
            self.assertEqual(maker_text(maker), text)
            self.assertEqual(kinds(maker_from(text)), kinds(maker))

    def test_each_makers_text_read_again_is_that_maker(self):
        for maker in MAKERS + SMALL_MAKERS:
            text = maker_text(maker)
            self.assertIs(type(text), str)
            self.assertEqual(kinds(maker_from(text)), kinds(maker), text)
            self.assertEqual(read_maker(text), maker)

    def test_tables_of_1_and_of_64_numbers(self):
        self.assertEqual(maker_text(("table", UNEVEN_TABLE)), "table " + " ".join(map(str, UNEVEN_TABLE)))
        for numbers in [(0,), (63,), (0,) * 64, (63,) * 64, UNEVEN_TABLE]:
            self.assertEqual(maker_from("table " + " ".join(map(str, numbers))), ("table", numbers))
        self.assert_refused(maker_from, ["table", "table ", "table" + " 0" * 65, "table 64", "table 0 64", "table (0)"])

    def test_three_around_one_another_and_four(self):
        for first in ("slow", "slip", "late"):
            for second in ("slow", "slip", "late"):
                three = f"{first} 1 ({second} 2 (late 3 (counter 2 1 0)))"
                self.assertEqual(maker_text(maker_from(three)), three)
                self.assert_refused(maker_from, [f"{word} 1 ({three})" for word in ("slow", "slip", "late")])

    def test_so_written_but_no_makers_by_their_bounds(self):
        self.assert_refused(maker_from, ["counter 65 1 0", "counter 0 1 0", "counter 4 2 0", "counter 4 1 4", "counter 4 5 0"])
        self.assert_refused(maker_from, ["turned 0 0", "turned 7 0", "turned 3 8", "register 1 1 1", "register 6 31 1"])
        self.assert_refused(maker_from, ["register 6 33 0", "slow 0 (turned 1 0)", "slow 65 (turned 1 0)", "late 65 (turned 1 0)"])
        self.assert_refused(maker_from, ["slow 2 (slow 64 (counter 64 1 0))", "slow 64 (slow 65 (table 1))"])
        # A maker within may have a longer round, the whole may not.
        self.assertTrue(is_maker(maker_from("slip 1 (slow 64 (slow 2 (counter 64 1 0)))")))

    def test_otherwise_written(self):
        self.assert_refused(maker_from, ["", " ", "\n", "()", "(", ")", "counter", "counter 8 3", "counter 8 3 0 0", "8 3 0"])
        self.assert_refused(maker_from, [" counter 8 3 0", "counter 8 3 0 ", "counter  8 3 0", "counter 8 3  0"])
        self.assert_refused(maker_from, ["counter 08 3 0", "counter 8 3 00", "counter +8 3 0", "counter 8 3 -0", "counter 8 -3 0"])
        self.assert_refused(maker_from, ["Counter 8 3 0", "counters 8 3 0", "count 8 3 0", "(counter 8 3 0)", "counter (8) 3 0"])
        self.assert_refused(maker_from, ["counter 8 3 0\n", "\ncounter 8 3 0", "counter 8\n3 0", "counter\t8 3 0", "counter 8,3,0"])
        self.assert_refused(maker_from, ["slip 8 counter 8 3 0", "slip 8 (counter 8 3 0", "slip 8 counter 8 3 0)"])
        self.assert_refused(maker_from, ["slip 8 (counter 8 3 0))", "slip 8 ((counter 8 3 0))", "slip 8 ( counter 8 3 0)"])
        self.assert_refused(maker_from, ["slip 8 (counter 8 3 0 )", "slip 8(counter 8 3 0)", "slip 8  (counter 8 3 0)"])
        self.assert_refused(maker_from, ["slip 8 [counter 8 3 0]", "slip (counter 8 3 0) 8", "slip 8 (counter 8 3 0) (turned 1 0)"])
        self.assert_refused(maker_from, ["slip 8 ()", "slip 8 (", "slip 8", "slip", "slip 8 (counter 8 3 0)x", "x slip 8 (table 0)"])
        self.assert_refused(maker_from, ["counter 1_0 1 0", "counter 8.0 3 0", "counter 0x8 3 0", "counter eight 3 0", "in 0"])
        self.assert_refused(maker_from, ["('counter', 8, 3, 0)", "table 1 2 (3)", "table (1 2)", "table 1  2", "table 01"])

    def test_what_is_nearly_a_makers_text(self):
        makers = [("counter", 8, 3, 0), ("turned", 3, 5), ("register", 2, 3, 1), ("table", (0, 63, 5)), ("late", 10, ("turned", 1, 0)),
                  ("slow", 2, ("slip", 3, ("late", 64, ("table", (1, 20)))))]
        texts = [near for maker in makers for near in nearly(maker_text(maker))]
        self.assertGreater(self.assert_read_by_the_words(maker_from, read_maker, texts), 100)


class Formulas(Refusing):
    def test_by_hand(self):
        told = {
            "in 2": ("in", 2),
            "less (in 0)": ("less", ("in", 0)),
            "both (in 0) (less (in 1))": ("both", ("in", 0), ("less", ("in", 1))),
            "either (in 5) (in 5)": ("either", ("in", 5), ("in", 5)),
            "oneof (less (in 3)) (in 4)": ("oneof", ("less", ("in", 3)), ("in", 4)),
            "pick (in 0) (both (in 1) (in 2)) (in 3)": ("pick", ("in", 0), ("both", ("in", 1), ("in", 2)), ("in", 3)),
        }
        for text, formula in told.items():
            self.assertEqual(formula_text(formula), text)
            self.assertEqual(kinds(formula_from(text)), kinds(formula))

    def test_each_formulas_text_read_again_is_that_formula(self):
        many = FORMULAS + [(word, *sides) for word in SIDES for side in FORMULAS[5:] for sides in [(side,) * SIDES[word]]]
        many = [formula for formula in many if is_formula(formula)]
        self.assertGreater(len(many), 30)
        for formula in many + [chain(depth) for depth in range(1, 9)] + [comb(parts) for parts in range(1, 25, 2)]:
            text = formula_text(formula)
            self.assertIs(type(text), str)
            self.assertEqual(kinds(formula_from(text)), kinds(formula), text)

    def test_so_written_but_no_formulas_by_their_bounds(self):
        self.assert_refused(formula_from, ["in 6", "in 10", "less (in 6)", "both (in 0) (in 64)"])
        self.assertEqual(formula_from(formula_text(chain(8))), chain(8))
        self.assert_refused(formula_from, [formula_text(chain(9)), formula_text(chain(10)), formula_text(chain(30))])
        self.assertEqual(formula_from(formula_text(("less", comb(23)))), ("less", comb(23)))
        self.assert_refused(formula_from, [formula_text(comb(25)), formula_text(("both", comb(11), comb(13)))])

    def test_otherwise_written(self):
        self.assert_refused(formula_from, ["", " ", "\n", "()", "(", ")", "in", "in ", "in  2", " in 2", "in 2 ", "in 02", "in +2"])
        self.assert_refused(formula_from, ["in -0", "in two", "In 2", "(in 2)", "in (2)", "in 2 2", "in2", "inn 2", "in 2\n", "2"])
        self.assert_refused(formula_from, ["less in 0", "less (in 0", "less in 0)", "less (in 0))", "less ((in 0))", "less(in 0)"])
        self.assert_refused(formula_from, ["less  (in 0)", "less ( in 0)", "less (in 0 )", "less (in 0) (in 1)", "less", "less ()"])
        self.assert_refused(formula_from, ["both (in 0)", "both (in 0)(in 1)", "both (in 0)  (in 1)", "both (in 0) (in 1) (in 2)"])
        self.assert_refused(formula_from, ["both (in 0) in 1", "both (in 0) (in 1", "both (in 0)) ((in 1)", "both (in 0),(in 1)"])
        self.assert_refused(formula_from, ["pick (in 0) (in 1)", "pick (in 0) (in 1) (in 2) (in 3)", "turned (in 0)", "not (in 0)"])
        self.assert_refused(formula_from, ["both (in 0) 1", "less 0", "counter 8 3 0", "table 1", "less (table 1)", "make (in 0)"])
        self.assert_refused(formula_from, ["both (in 0)\n(in 1)", "both\n(in 0) (in 1)", "both\t(in 0) (in 1)"])

    def test_what_is_nearly_a_formulas_text(self):
        texts = [near for formula in FORMULAS[5:] for near in nearly(formula_text(formula))]
        self.assertGreater(self.assert_read_by_the_words(formula_from, read_formula, texts), 50)


class VeryLong(Refusing):
    def test_thousands_of_brackets_within_one_another(self):
        for many in (8, 9, 10, 12, 100, 1001, 5000, 100000):
            texts = ["(" * many, ")" * many, "(" * many + ")" * many, "(" * many + "in 0" + ")" * many, "( " * many]
            texts += ["less (" * many + "in 0" + ")" * many, "slow 1 (" * many + "counter 2 1 0" + ")" * many]
            texts += ["less (" * many + "in 0" + ")" * (many - 1), "late 0 (" * many + "table 1", "()" * many, ") (" * many]
            texts += ["both (in 0) (" * many + "in 0" + ")" * many, "in 0" + ")" * many, "counter 2 1 0" + ")" * many]
            for deed in (row_from, maker_from, formula_from):
                self.assert_refused(deed, texts)

    def test_numbers_of_thousands_of_figures(self):
        for figures in (4, 5, 6, 4300, 4301, 5000, 100000):
            for number in ("1" * figures, "9" * figures, "0" * figures, "0" * (figures - 1) + "1"):
                texts = [f"counter {number} 1 0", f"counter 8 {number} 0", f"counter 8 3 {number}", f"turned {number} 0"]
                texts += [f"register 6 33 {number}", f"table {number}", f"table 0 {number}", f"slow {number} (table 1)"]
                texts += [f"slip 2 (counter {number} 1 0)", f"late {number} (table 1)", number]
                self.assert_refused(maker_from, texts)
                self.assert_refused(formula_from, [f"in {number}", f"less (in {number})", f"both (in 0) (in {number})", number])
        self.assert_refused(row_from, ["1" * 4301, "0" * 5000, "9" * 5000, "2" * 100000])

    def test_many_words(self):
        for deed in (maker_from, formula_from, row_from):
            self.assert_refused(deed, ["table" + " 1" * 50000, "both" + " (in 0)" * 50000, " " * 50000, "in" * 50000, "\n" * 50000])


class BeyondTheBounds(unittest.TestCase):
    def test_no_error_is_raised(self):
        self.assertEqual(row_text(()), "")
        self.assertEqual(row_text((1,) * 5000), "1" * 5000)
        self.assertEqual(maker_text(("counter", 65, -1, 0)), "counter 65 -1 0")
        self.assertEqual(maker_text(("table", ())), "table")
        self.assertEqual(maker_text(("slow", 0, ("late", 65, ("slip", 1, ("late", 2, ("turned", -1, 0)))))),
                         "slow 0 (late 65 (slip 1 (late 2 (turned -1 0))))")
        self.assertEqual(formula_text(("in", 6)), "in 6")
        self.assertEqual(formula_text(chain(40)), "less (" * 39 + "in 0" + ")" * 39)


if __name__ == "__main__":
    unittest.main()

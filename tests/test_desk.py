import unittest
from itertools import product

from shareones.apart import apart, common_round
from shareones.desk import answers
from shareones.errors import BadSheet, OnesError
from shareones.keeping import kept_round
from shareones.leaning import lean
from shareones.makers import round_of, row_of, share_told
from shareones.parts import worst_part
from shareones.rows import both, either, oneof, pick, share_of, turned
from shareones.texts import maker_text, row_text
from things import SMALL_MAKERS, kinds, short_rows

WORDS = "maker bits make less both either oneof pick kept round apart told share lean part".split()
# A maker m and rows r, s of 4 bits, t of 2, and n without a 1.
BEGIN = ["maker m counter 8 3 0", "maker o turned 3 0", "bits r 1100", "bits s 1010", "bits t 10", "bits n 0000"]
GOOD = [
    "maker a counter 8 3 0", "maker a slow 2 (slip 3 (table 1 2))", "bits a 0", "bits a 1011", "make a m 3 16", "make a m 0 1",
    "make a m 64 400", "less a r", "both a r s", "either a r s", "oneof a r s", "pick a r s n", "kept a r s", "both a r t",
    "kept a r n", "round m", "apart m o", "told m 0", "told m 64", "share r", "lean r s", "lean r t", "part r",
]


def sheet(*rows):
    return "\n".join(rows)


def share_text(told):
    return f"{told[0]}/{told[1]}"


class Answers(unittest.TestCase):
    def assert_answers(self, rows, due):
        self.assertEqual(kinds(answers(sheet(*rows))), kinds(due))

    def assert_bad(self, rows, number):
        with self.assertRaises(OnesError) as caught:
            answers(sheet(*rows))
        self.assertIs(type(caught.exception), BadSheet, rows)
        self.assertEqual(kinds(caught.exception.row), kinds(number), rows)


class Asked(Answers):
    def test_by_hand(self):
        rows = ["maker a counter 8 3 0", "maker b turned 3 0", "maker c slip 8 (turned 3 0)", "round a", "round c", "apart a b",
                "apart a c", "told a 3", "told c 8", "told c 0", "bits x 1100", "bits y 1010", "share x", "lean x y", "lean x x",
                "less z x", "lean x z", "part x", "part z"]
        due = ["8", "64", "lean 1 1 1 1/8", "apart 64", "3/8", "1/1", "0/1", "1/2", "0", "4", "-4", "1/1 2", "1/1 2"]
        self.assert_answers(rows, due)

    def test_each_naming_word(self):
        rows = BEGIN + ["less a r", "share a", "both b r s", "share b", "either c r s", "share c", "oneof d r s", "share d",
                        "pick e s r n", "share e", "kept f r s", "share f", "make g m 3 5", "share g", "part f"]
        self.assert_answers(rows, ["1/2", "1/4", "3/4", "1/2", "1/4", "1/2", "2/5", "1/1 2"])

    def test_nothing_is_told_of_naming(self):
        self.assert_answers(BEGIN + [row for row in GOOD if row.split(" ")[0] in WORDS[:9] and row not in ("both a r t", "kept a r n")],
                            [])

    def test_no_rows_and_rows_without_signs(self):
        for text in ("", "\n", "\n\n\n"):
            self.assertEqual(kinds(answers(text)), kinds([]))
        self.assert_answers(["", "bits a 10", "", "", "share a", ""], ["1/2"])

    def test_100_rows(self):
        self.assert_answers(["bits a 10"] + ["share a"] * 99, ["1/2"] * 99)
        self.assert_answers([""] * 98 + ["bits a 10", "part a"], ["1/2 1"])
        self.assert_answers(["bits a 1"] + ["less a a"] * 98 + ["share a"], ["1/1"])
        self.assert_bad(["bits a 10"] + ["share a"] * 98 + ["share b"], 99)

    def test_rows_of_600_signs(self):
        bits = "10" * 296 + "1"
        self.assertEqual(len(f"bits a {bits}"), 600)
        self.assert_answers([f"bits a {bits}", "share a"], ["297/593"])

    def test_beats_of_1_and_of_400(self):
        self.assert_answers(["maker m counter 64 1 0", "make a m 1 1", "share a", "make a m 1 400", "share a"], ["1/1", "7/400"])

    def test_tables_and_makers_within_one_another(self):
        rows = ["maker a table 0 63 5 5", "told a 6", "maker b late 3 (slow 2 (slip 3 (counter 4 1 0)))", "round b", "told b 64"]
        self.assert_answers(rows, ["3/4", "6", "1/1"])


class Names(Answers):
    def test_of_eight_letters_and_of_one(self):
        self.assert_answers(["bits abcdefgh 110", "share abcdefgh", "bits z 1", "share z", "bits zzzzzzzz 0", "share zzzzzzzz"],
                            ["2/3", "1/1", "0/1"])
        self.assert_bad(["bits abcdefghi 110"], 0)

    def test_that_are_words_of_rows(self):
        for word in WORDS:
            rows = [f"maker {word} counter 4 1 0", f"bits {word} 110", f"round {word}", f"share {word}", f"make {word} {word} 1 4",
                    f"share {word}", f"less {word} {word}", f"share {word}", f"apart {word} {word}", f"lean {word} {word}",
                    f"pick {word} {word} {word} {word}", f"part {word}", f"told {word} 1"]
            due = ["4", "2/3", "1/4", "3/4", "lean 1 1 1 1/4", "3", "3/4 1", "1/4"]
            self.assert_answers(rows, due)

    def test_a_maker_and_a_row_of_one_name(self):
        self.assert_answers(["maker a counter 4 1 0", "bits a 110", "round a", "share a", "told a 3", "make a a 1 2", "share a",
                             "round a"], ["4", "2/3", "3/4", "1/2", "4"])
        self.assert_bad(["maker a counter 4 1 0", "share a"], 1)
        self.assert_bad(["bits a 10", "round a"], 1)

    def test_named_again_from_there_on(self):
        self.assert_answers(["bits a 10", "share a", "bits a 110", "share a", "less a a", "share a", "oneof a a a", "share a"],
                            ["1/2", "2/3", "1/3", "0/1"])
        self.assert_answers(["maker a table 1", "round a", "maker a table 1 2", "round a"], ["1", "2"])
        # What was made of it ahead stays as it was.
        self.assert_answers(["maker a table 0", "make b a 1 2", "maker a table 1", "share b", "make b a 1 2", "share b"],
                            ["1/1", "0/1"])
        self.assert_answers(["bits a 10", "less b a", "bits a 11", "share b"], ["1/2"])


class Refused(Answers):
    def test_unlike_and_no_one_are_told_and_name_nothing(self):
        for word, others in [("both", 2), ("either", 2), ("oneof", 2), ("pick", 3), ("kept", 2)]:
            for at in range(others):
                asked = ["r"] * others
                asked[at] = "t"
                row = f"{word} a {' '.join(asked)}"
                self.assert_answers(BEGIN + [row], ["unlike"])
                self.assert_answers(BEGIN + ["bits a 1", row, "share a"], ["unlike", "1/1"])
                self.assert_bad(BEGIN + [row, "share a"], 7)
        self.assert_answers(BEGIN + ["kept a r n"], ["no one"])
        self.assert_answers(BEGIN + ["bits a 110", "kept a r n", "share a", "kept r r n", "share r"], ["no one", "2/3", "no one", "1/2"])
        self.assert_bad(BEGIN + ["kept a r n", "share a"], 7)

    def test_of_both_the_one_told_first_goes(self):
        self.assert_answers(BEGIN + ["kept a t n"], ["unlike"])

    def test_lean_tells_unlike(self):
        self.assert_answers(BEGIN + ["lean r t", "lean t r", "lean r r"], ["unlike", "unlike", "4"])

    def test_told_in_its_place(self):
        self.assert_answers(BEGIN + ["share r", "both a r t", "share s", "kept a r n", "share t"],
                            ["1/2", "unlike", "1/2", "no one", "1/2"])

    def test_the_lower_one_must_have_a_1_not_the_upper(self):
        self.assert_answers(BEGIN + ["kept a n r", "share a", "kept b r r", "share b"], ["0/1", "1/1"])


class AsTheFunctionsTell(Answers):
    def test_of_makers(self):
        for one, other in product(SMALL_MAKERS, SMALL_MAKERS[::3]):
            rows = [f"maker a {maker_text(one)}", f"maker b {maker_text(other)}", "round a", "apart a b", "apart b a", "told a 1",
                    "told a 64"]
            due = [str(round_of(one))]
            for told in (apart(one, other), apart(other, one)):
                due.append(f"apart {told[1]}" if told[0] == "apart" else "lean {} {} {} ".format(*told[1:4]) + share_text(told[4]))
            self.assert_answers(rows, due + [share_text(share_told(one, 1)), share_text(share_told(one, 64))])

    def test_far(self):
        c64, c63 = "counter 64 1 0", "counter 63 1 0"
        self.assert_answers([f"maker a {c64}", f"maker b {c63}", "maker c counter 5 1 0", f"maker d slow 64 ({c64})", "apart a b",
                             "apart a d", "apart d a", "apart d d", "apart d b", "apart b d", "apart d c"],
                            ["apart 4032", "apart 4096", "apart 4096", "lean 1 1 64 1/1", "far", "far", "far"])
        self.assert_answers(["maker a counter 64 1 0", "maker b slow 13 (counter 5 1 0)", "apart a b", "round b"], ["far", "65"])
        # 4,092 is near enough, 4,100 too far.
        one, other = ("slow", 62, ("counter", 33, 1, 0)), ("counter", 4, 1, 0)
        self.assertEqual((common_round([one, other]), common_round([("slow", 41, ("counter", 25, 1, 0)), other])), (4092, 4100))
        near, far = answers(sheet(f"maker a {maker_text(one)}", "maker b counter 4 1 0", "apart a b",
                                  "maker a slow 41 (counter 25 1 0)", "apart a b"))
        self.assertEqual((near.split(" ")[0], far), (apart(one, other)[0], "far"))

    def test_of_rows(self):
        for one, other in product(short_rows(4)[::2], short_rows(4)[::3]):
            rows = [f"bits a {row_text(one)}", f"bits b {row_text(other)}", "share a", "part b", "less c a", "share c", "lean a b"]
            due = [share_text(share_of(one)), "{} {}".format(share_text(worst_part(other)[0]), worst_part(other)[1]),
                   share_text(share_of(turned(one))), str(lean(one, other)) if len(one) == len(other) else "unlike"]
            self.assert_answers(rows, due)
            rows, due = rows[:2], []
            deeds = {"both": both, "either": either, "oneof": oneof, "kept": kept_round}
            for word, deed in deeds.items():
                rows.append(f"{word} c a b")
                if len(one) != len(other):
                    due.append("unlike")
                elif word == "kept" and 1 not in other:
                    due.append("no one")
                else:
                    rows += ["share c", "part c"]
                    off, n = worst_part(deed(one, other))
                    due += [share_text(share_of(deed(one, other))), f"{share_text(off)} {n}"]
            self.assert_answers(rows, due)

    def test_of_picks_and_makes(self):
        for by, one, other in product(short_rows(3)[6:], repeat=3):
            rows = [f"bits a {row_text(by)}", f"bits b {row_text(one)}", f"bits c {row_text(other)}", "pick d a b c", "part d", "share d"]
            told = pick(by, one, other)
            self.assert_answers(rows, ["{} {}".format(share_text(worst_part(told)[0]), worst_part(told)[1]), share_text(share_of(told))])
        for maker in SMALL_MAKERS:
            for k, beats in product((0, 1, 2, 64), (1, 2, 9, 400)):
                row = row_of(maker, k, beats)
                self.assert_answers([f"maker m {maker_text(maker)}", f"make a m {k} {beats}", "share a", "part a"],
                                    [share_text(share_of(row)), "{} {}".format(share_text(worst_part(row)[0]), worst_part(row)[1])])

    def test_told_anew_each_time(self):
        text = sheet(*BEGIN, "share r", "apart m o", "both a r t")
        first = answers(text)
        second = answers(text)
        self.assertIsNot(first, second)
        kept = list(first)
        second.clear()
        self.assertEqual(first, kept)
        self.assertEqual(answers(text), kept)

    def test_no_names_stay_from_sheet_to_sheet(self):
        answers("bits a 10\nmaker m table 1")
        self.assert_bad(["share a"], 0)
        self.assert_bad(["round m"], 0)


class BadSheets(Answers):
    def assert_bad_row(self, row):
        """Bad alone, behind the names, behind rows without signs and asks that were answered, and ahead of other bad ones."""
        self.assert_bad(BEGIN + [row], 6)
        self.assert_bad(BEGIN + ["", "", "share r", "lean r t", "both r r t", row, "share r"], 11)
        self.assert_bad(BEGIN + [row, "", "share nowhere", "?"], 6)
        self.assert_bad([""] * 3 + BEGIN + [row], 9)

    def test_the_good_ones_are_good(self):
        for row in GOOD:
            answers(sheet(*BEGIN, row))

    def test_nearly_good_ones(self):
        for row in GOOD:
            for bad in (" " + row, row + " ", row.replace(" ", "  ", 1), row + " r", row + " 1", row + " m", row + "\t", "\t" + row):
                self.assert_bad(BEGIN + [bad], 6)
            for bad in (row.upper(), row.capitalize(), row.replace(" ", "\t"), row.replace(" ", "\t", 1), row.rpartition(" ")[0],
                        "x" + row, row.replace(" ", "", 1), row.replace(" ", ",", 1), row + ".", "(" + row + ")"):
                self.assert_bad(BEGIN + [bad], 6)
        for word in WORDS + ["nothing", "rooms", "turned", "in", "keep", "late"]:
            self.assert_bad_row(word)
            self.assert_bad_row(word + " ")

    def test_rows_of_blanks_and_tabs(self):
        for row in (" ", "  ", "\t", " \t", "~", "0", "a", "-", "#", "()"):
            self.assert_bad_row(row)

    def test_names_that_are_none(self):
        for name in ("", "A", "aB", "a1", "1", "a_b", "a-b", "abcdefghi", "nine" * 3, "a.", "(a)", "~", "\t", "a\t"):
            self.assert_bad_row(f"bits {name} 10")
            self.assert_bad_row(f"maker {name} table 1")
            self.assert_bad_row(f"make {name} m 1 1")
            self.assert_bad_row(f"less {name} r")
            self.assert_bad_row(f"pick {name} r r r")
            self.assert_bad_row(f"both {name} r t")

    def test_numbers_that_are_none(self):
        for k in ("65", "-1", "+1", "01", "00", "1.0", "one", "", "1_0", "64 ", "m", "r", "1e1", "9" * 300, "0" * 300, "100", "(1)"):
            self.assert_bad_row(f"make a m {k} 10")
            self.assert_bad_row(f"told m {k}")
        for beats in ("0", "401", "-1", "+4", "04", "0400", "4.0", "", "4096", "9" * 300, "four", "m"):
            self.assert_bad_row(f"make a m 3 {beats}")

    def test_bits_that_are_none(self):
        for bits in ("", "2", "10 1", "1a", "-1", "(1)", "0x1", "m", "r", "1\t", "10,"):
            self.assert_bad_row(f"bits a {bits}")

    def test_makers_that_are_none(self):
        for text in ("", "m", "counter 8 3", "counter 8 2 0", "counter 8 3 8", "counter 08 3 0", "counter 8  3 0", "counter 8 3 0 ",
                     "(counter 8 3 0)", "slow 2 counter 8 3 0", "slow 2 (m)", "slow 2 (counter 8 3 0", "slow 2 (counter 8 3 0))",
                     "slow 2 (slow 64 (counter 64 1 0))", "table", "table 64", "in 0", "counter 8 3 0\t", "(" * 290, ")" * 290,
                     "slow 1 (" * 50 + "table 1" + ")" * 50, "counter " + "8" * 580):
            self.assert_bad_row(f"maker a {text}")

    def test_what_is_not_there(self):
        for row in ("make a x 1 1", "less a x", "both a x r", "both a r x", "either a x r", "either a r x", "oneof a x r", "oneof a r x",
                    "pick a x r r", "pick a r x r", "pick a r r x", "kept a x r", "kept a r x", "round x", "apart x m", "apart m x",
                    "told x 1", "share x", "lean x r", "lean r x", "part x", "less a a", "both a a r", "pick a r s a"):
            self.assert_bad_row(row)

    def test_makers_where_rows_are_asked_for_and_rows_where_makers_are(self):
        for row in ("make a r 1 1", "less a m", "both a m r", "both a r m", "pick a r r m", "kept a m r", "round r", "apart r m",
                    "apart m r", "told r 1", "share m", "lean m r", "lean r m", "part m"):
            self.assert_bad_row(row)

    def test_named_only_later(self):
        self.assert_bad(["share a", "bits a 10"], 0)
        self.assert_bad(["", "make a m 1 1", "maker m table 1"], 1)

    def test_too_few_and_too_many(self):
        for row in ("bits a", "bits 10", "bits a 10 10", "make a m 1", "make m 1 1", "make a m 1 1 1", "less r", "less a r r", "both a r",
                    "both a r s n", "pick a r s", "pick a r s n n", "kept a r", "kept a r s n", "round", "round m m", "apart m",
                    "apart m m m", "told m", "told 1", "told m 1 1", "share", "share r r", "lean r", "lean r r r", "part", "part r 1"):
            self.assert_bad_row(row)

    def test_a_refusal_of_a_row_is_no_bad_sheet_but_what_it_did_not_name_is(self):
        self.assert_bad(BEGIN + ["both a r t", "kept b r n", "", "share b"], 9)
        self.assert_bad(BEGIN + ["both a x t"], 6)
        self.assert_bad(BEGIN + ["both A r t"], 6)

    def test_a_row_is_refused_with_its_own_number(self):
        for number in (0, 1, 42, 99):
            self.assert_bad(["bits a 10"] * number + ["share b"] + ["share a"] * (99 - number), number)
            self.assert_bad([""] * number + ["share b"], number)


class BeyondTheBounds(Answers):
    def test_no_error_is_raised(self):
        self.assert_answers(["bits a 10"] + ["share a"] * 150, ["1/2"] * 150)
        self.assert_answers(["bits a " + "10" * 400, "share a"], ["1/2"])


if __name__ == "__main__":
    unittest.main()

import unittest
from fractions import Fraction
from random import Random

from shareones.errors import NoRound, OnesError
from shareones.keeping import divided, kept, rooted
from shareones.machines import Machine, is_machine, long_share, run, settles, worst_run
from shareones.makers import round_of, row_of, share_told
from shareones.rows import behind, both, either, oneof, pick, turned
from things import PLAIN, SMALL_MAKERS, kinds, nested, odd_things, with_other_parts
from words import as_tuple, maker_by_the_words, round_by_the_words, value_by_the_words, whole

ASKS = {"make": 0, "less": 1, "both": 2, "either": 2, "oneof": 2, "pick": 3, "keep": 2, "late": 1, "keeper": 2}
C4, C5, C64 = ("counter", 4, 3, 1), ("counter", 5, 2, 0), ("counter", 64, 27, 0)
NEVER, ALWAYS = ("make", ("counter", 1, 1, 0), 0), ("make", ("counter", 1, 1, 0), 64)

# Each kind of piece, late and keeper asking ahead of them, of themselves and behind them.
ALL_KINDS = (
    ("make", C4, 2), ("make", ("register", 3, 5, 1), 4), ("less", 0), ("both", 0, 1), ("either", 2, 3), ("oneof", 4, 1),
    ("pick", 5, 0, 2), ("keep", 1, 0, 1), ("keep", 6, 3, 0), ("late", 12, (1, 0, 1)), ("late", 10, (0, 1)),
    ("late", 0, (1,)), ("keeper", 0, 13, ("turned", 2, 1), 4, 2), ("keeper", 13, 12, C5, 3, 0), ("less", 13),
    ("both", 12, 9),
)
BITS_16 = (1, 0, 0, 1, 1, 0, 1, 0, 1, 1, 1, 0, 0, 0, 1, 0)
ALONE = (
    NEVER, ALWAYS, ("make", C4, 1), ("make", C64, 64), ("make", ("slip", 4, ("counter", 4, 1, 0)), 2), ("late", 0, (0,)),
    ("late", 0, (1,)), ("late", 0, (1, 0, 0)), ("late", 0, BITS_16), ("keeper", 0, 0, ("counter", 3, 1, 0), 1, 1),
    ("keeper", 0, 0, ("turned", 6, 3), 64, 64),
)
# A number that is fed back through its own bits: what comes of row is divided by by.
QUOTIENT = (("make", ("counter", 16, 5, 0), 4), ("make", ("counter", 15, 4, 0), 9), ("keeper", 0, 3, ("turned", 4, 0), 16, 3),
            ("both", 1, 2))
TWENTY_FOUR = ALL_KINDS + (
    ("late", 23, BITS_16), ("pick", 14, 15, 16), ("keeper", 17, 23, ("table", (3, 0, 1)), 64, 0), ("oneof", 18, 16),
    ("either", 19, 17), ("less", 20), ("keep", 21, 19, 1), ("oneof", 22, 18),
)
# 13 bits that come again only behind 8,191 beats.
LONG_ROUND = (("late", 6, (1, 0, 0, 0, 0, 0, 0, 0, 0)), ("late", 0, (0,)), ("late", 1, (0, 0)), ("late", 2, (0,)),
              ("oneof", 0, 1), ("oneof", 2, 3), ("oneof", 4, 5))
# Their common round is 8,190.
THREE_MAKERS = (("make", ("counter", 63, 1, 0), 20), ("make", ("counter", 10, 1, 0), 3), ("make", ("counter", 13, 1, 0), 6))


def machine_by_the_words(thing):
    if type(thing) is not tuple or not 1 <= len(thing) <= 24:
        return False
    return all(piece_by_the_words(piece, number, len(thing)) for number, piece in enumerate(thing))


def piece_by_the_words(piece, number, many):
    if type(piece) is not tuple or not piece or type(piece[0]) is not str or piece[0] not in ASKS:
        return False
    word, asked, others = piece[0], piece[1:1 + ASKS[piece[0]]], piece[1 + ASKS[piece[0]]:]
    end = many if word in ("late", "keeper") else number
    if len(asked) != ASKS[word] or not all(whole(a, 0, end - 1) for a in asked):
        return False
    if word == "make":
        return len(others) == 2 and maker_by_the_words(others[0]) and whole(others[1], 0, 64)
    if word == "keep":
        return len(others) == 1 and whole(others[0], 0, 1)
    if word == "late":
        ahead = others[0] if len(others) == 1 else None
        return type(ahead) is tuple and 1 <= len(ahead) <= 16 and all(whole(bit, 0, 1) for bit in ahead)
    if word == "keeper":
        if len(others) != 3:
            return False
        return maker_by_the_words(others[0]) and whole(others[1], 1, 64) and whole(others[2], 0, others[1])
    return others == ()


class ByTheWords:
    """A machine, as slowly as the document reads: rows[i][t] is piece i's bit of beat t."""

    def __init__(self, pieces, beats):
        self.pieces = pieces
        self.rows = [[] for _ in pieces]
        self.keepers = [[piece[5]] if piece[0] == "keeper" else None for piece in pieces]
        for t in range(beats):
            for i in range(len(pieces)):
                self.rows[i].append(self.bit(i, t))
            for i in range(len(pieces)):
                self.beat_keeper(i, t)

    def bit(self, i, t):
        word, *parts = self.pieces[i]
        if word == "make":
            return int(value_by_the_words(parts[0], t) < parts[1])
        if word == "keeper":
            return int(value_by_the_words(parts[2], t) < self.keepers[i][t])
        if word == "late":
            a, ahead = parts
            return ahead[t] if t < len(ahead) else self.rows[a][t - len(ahead)]
        bits = [self.rows[a][t] for a in parts[:ASKS[word]]]
        if word == "keep":
            own = self.rows[i][t - 1] if t > 0 else parts[2]
            return bits[0] if bits[1] == 1 else own
        return {
            "less": lambda a: 1 - a, "both": lambda a, b: a * b, "either": lambda a, b: max(a, b),
            "oneof": lambda a, b: int(a != b), "pick": lambda a, b, c: (c, b)[a],
        }[word](*bits)

    def beat_keeper(self, i, t):
        if self.pieces[i][0] == "keeper":
            a, b, _, most, _ = self.pieces[i][1:]
            change = self.rows[a][t] - self.rows[b][t]
            self.keepers[i].append(min(most, max(0, self.keepers[i][t] + change)))

    def held(self, t):
        """What it holds ahead of beat t, just as point 15 lists it."""
        told = []
        for i, piece in enumerate(self.pieces):
            if piece[0] == "make":
                told.append(t % round_by_the_words(piece[1]))
            if piece[0] == "late":
                a, ahead = piece[1:]
                told.append([ahead[at] if at < len(ahead) else self.rows[a][at - len(ahead)]
                             for at in range(t, t + len(ahead))])
            if piece[0] == "keep":
                told.append(self.rows[i][t - 1] if t > 0 else piece[3])
            if piece[0] == "keeper":
                told.append((t % round_by_the_words(piece[3]), self.keepers[i][t]))
        return told

    def settles(self, most):
        """The least (ahead, round), None where these are above most together."""
        held = [self.held(t) for t in range(most + 1)]
        for ahead in range(most):
            for end in range(ahead + 1, most + 1):
                if held[ahead] == held[end]:
                    return (ahead, end - ahead)
        return None


def some_machines(seed, count, most):
    """Machines of up to so many pieces of all kinds, with short rounds, the same ones for one seed."""
    chance = Random(seed)
    makers = [("counter", 2, 1, 0), ("counter", 3, 2, 1), C4, ("turned", 2, 0), ("table", (1, 0, 0, 2)), ("register", 2, 3, 1)]
    for _ in range(count):
        many = chance.randint(1, most)
        pieces = []
        for number in range(many):
            word = chance.choice([word for word in ASKS if number > 0 or word in ("make", "late", "keeper")])
            end = many if word in ("late", "keeper") else number
            asked = tuple(chance.randrange(end) for _ in range(ASKS[word]))
            others = ()
            if word == "make":
                others = (chance.choice(makers), chance.randint(0, 3))
            if word == "keep":
                others = (chance.randint(0, 1),)
            if word == "late":
                others = (tuple(chance.randint(0, 1) for _ in range(chance.randint(1, 3))),)
            if word == "keeper":
                top = chance.randint(1, 4)
                others = (chance.choice(makers), top, chance.randint(0, top))
            pieces.append((word, *asked, *others))
        yield tuple(pieces)


SOME = list(some_machines(7, 150, 7))
HANDED = [ALL_KINDS, QUOTIENT, TWENTY_FOUR, LONG_ROUND, THREE_MAKERS] + [(piece,) for piece in ALONE]


class IsMachine(unittest.TestCase):
    def assert_machines(self, things):
        for thing in things:
            self.assertIs(is_machine(thing), True, thing)

    def assert_no_machines(self, things):
        for thing in things:
            self.assertIs(is_machine(thing), False, thing)

    def test_all_kinds(self):
        self.assert_machines(HANDED + SOME)
        self.assertEqual({piece[0] for piece in ALL_KINDS}, set(ASKS))

    def test_one_piece_and_24(self):
        self.assert_machines([(ALWAYS,), (ALWAYS,) * 24, TWENTY_FOUR])
        self.assertEqual(len(TWENTY_FOUR), 24)
        self.assert_no_machines([(), (ALWAYS,) * 25, TWENTY_FOUR + (ALWAYS,)])

    def test_makes(self):
        self.assert_machines([(("make", C4, k),) for k in (0, 1, 64)])
        self.assert_no_machines([(("make", C4, k),) for k in (-1, 65, True, False, None, "1", (1,), [1], 10 ** 5000)])
        self.assert_no_machines([(("make", list(C4), 1),), (("make", ("counter", 4, 2, 0), 1),), (("make", None, 1),)])
        self.assert_no_machines([(("make", C4),), (("make", C4, 1, 1),), (("make",),), (("make", 1, C4),)])
        self.assert_no_machines([(("make", ("slow", 64, ("slow", 2, C64)), 1),)])

    def test_pieces_that_ask_just_ahead_of_them(self):
        for word in ("less", "both", "either", "oneof", "pick", "keep"):
            tail = (0,) if word == "keep" else ()
            for at in range(ASKS[word]):
                def asking(number):
                    asked = [0] * ASKS[word]
                    asked[at] = number
                    return (NEVER, ALWAYS, (word, *asked, *tail), NEVER)
                self.assert_machines([asking(0), asking(1)])
                self.assert_no_machines([asking(number) for number in (2, 3, 4, -1, True, False, None, "0", (0,), [0])])
            self.assert_no_machines([((word, *(0,) * ASKS[word], *tail), ALWAYS)])
            self.assert_no_machines([(ALWAYS, (word, *(0,) * (ASKS[word] + 1), *tail))])
            self.assert_no_machines([(ALWAYS, (word, *(0,) * (ASKS[word] - 1), *tail))])

    def test_late_and_keeper_ask_of_any(self):
        for number in (0, 1, 2):
            self.assert_machines([(NEVER, ("late", number, (1,)), NEVER)])
            self.assert_machines([(NEVER, ("keeper", number, 0, C4, 1, 0), NEVER)])
            self.assert_machines([(NEVER, ("keeper", 0, number, C4, 1, 0), NEVER)])
        for number in (3, -1, 24, True, False, None, "0", (0,), [0]):
            self.assert_no_machines([(NEVER, ("late", number, (1,)), NEVER)])
            self.assert_no_machines([(NEVER, ("keeper", number, 0, C4, 1, 0), NEVER)])
            self.assert_no_machines([(NEVER, ("keeper", 0, number, C4, 1, 0), NEVER)])

    def test_what_a_late_has_ahead(self):
        self.assert_machines([(("late", 0, (0,)),), (("late", 0, (1,)),), (("late", 0, BITS_16),)])
        others = [(), BITS_16 + (0,), (2,), (-1,), (True,), (False, 0), [1], 1, None, "1", ((1,),), (0, 1, None)]
        self.assert_no_machines([(("late", 0, ahead),) for ahead in others])
        self.assert_no_machines([(("late", 0),), (("late", 0, (1,), (1,)),), (("late", (1,), 0),)])

    def test_what_a_keep_begins_with(self):
        self.assert_machines([(ALWAYS, ("keep", 0, 0, first)) for first in (0, 1)])
        self.assert_no_machines([(ALWAYS, ("keep", 0, 0, first)) for first in (2, -1, True, False, None, "0", (0,), [0])])

    def test_what_a_keeper_holds(self):
        self.assert_machines([(("keeper", 0, 0, C4, most, at),) for most, at in [(1, 0), (1, 1), (64, 0), (64, 64), (7, 3)]])
        beyond = [(0, 0), (65, 0), (-1, 0), (1, 2), (1, -1), (64, 65), (True, 0), (1, True), (1, False), (None, 0), ("1", 0)]
        self.assert_no_machines([(("keeper", 0, 0, C4, most, at),) for most, at in beyond])
        self.assert_no_machines([(("keeper", 0, 0, ("counter", 4, 2, 0), 1, 0),), (("keeper", 0, 0, None, 1, 0),)])
        self.assert_no_machines([(("keeper", 0, 0, C4, 1),), (("keeper", 0, 0, C4, 1, 0, 0),), (("keeper", 0, C4, 1, 0),)])

    def test_words_and_parts(self):
        self.assert_no_machines([[ALWAYS], (list(ALWAYS),), ALWAYS, (ALWAYS, ()), (ALWAYS, []), (ALWAYS, None), (ALWAYS, "less")])
        self.assert_no_machines([(ALWAYS, ("more", 0)), (ALWAYS, ("Less", 0)), (ALWAYS, ("", 0)), (ALWAYS, (0, 0))])
        self.assert_no_machines([(ALWAYS, (["less"], 0)), (ALWAYS, (("less",), 0)), (ALWAYS, (None, 0)), (ALWAYS, ("in", 0))])
        self.assert_no_machines([(ALWAYS, ["less", 0]), (ALWAYS, ("table", (0,))), (C4,), (ALWAYS, C4)])

    def test_asked_of_anything(self):
        self.assert_no_machines(odd_things())
        self.assert_no_machines([nested(ALWAYS, depth, tuple) for depth in range(2, 9)])
        self.assert_no_machines([nested(ALWAYS, depth, list) for depth in range(1, 9)])

    def test_asked_of_what_is_nearly_a_machine(self):
        others = PLAIN + (4, 5, 16, 24, 64, 65, (), [], (0,), [0], "make", "late", "keep", C4, list(C4), ALWAYS, ("less", 0))
        for machine in [QUOTIENT, ALL_KINDS[:5], (ALWAYS, ("keep", 0, 0, 1), ("late", 2, (1, 0)), ("pick", 1, 0, 2))]:
            for thing in with_other_parts(machine, others):
                self.assertIs(is_machine(thing), machine_by_the_words(thing), thing)


class Run(unittest.TestCase):
    def test_by_hand(self):
        pieces = (("make", C4, 2), ("late", 3, (1, 0)), ("keeper", 0, 1, ("table", (0, 1)), 2, 0), ("oneof", 0, 2),
                  ("keep", 2, 0, 1))
        # The numbers of the maker are 1, 0, 3, 2; the Keeper holds 0, 0, 1, 0, 0, 1 ahead of the beats.
        self.assertEqual(run(pieces, 6), [(1, 1, 0, 0, 1, 1), (1, 0, 1, 1, 1, 0), (0, 0, 1, 0, 0, 0), (1, 1, 1, 0, 1, 1),
                                          (0, 0, 0, 0, 0, 0)])

    def test_of_all(self):
        for pieces in HANDED + SOME:
            due = ByTheWords(pieces, 90).rows
            self.assertEqual(kinds(run(pieces, 90)), kinds([tuple(row) for row in due]), pieces)

    def test_one_beat_and_4096(self):
        for pieces in [ALL_KINDS, QUOTIENT, (ALWAYS,), TWENTY_FOUR]:
            due = ByTheWords(pieces, 4096).rows
            self.assertEqual(run(pieces, 4096), [tuple(row) for row in due])
            self.assertEqual(run(pieces, 1), [tuple(row[:1]) for row in due])

    def test_pieces_are_as_the_rows_deeds(self):
        one, other, by = row_of(C4, 2, 60), row_of(("register", 3, 5, 1), 4, 60), row_of(C5, 3, 60)
        pieces = (("make", C4, 2), ("make", ("register", 3, 5, 1), 4), ("make", C5, 3), ("less", 0), ("both", 0, 1),
                  ("either", 0, 1), ("oneof", 0, 1), ("pick", 2, 0, 1), ("keep", 0, 1, 1), ("keep", 0, 1, 0),
                  ("late", 0, (1, 1, 0)), ("late", 0, BITS_16))
        due = [one, other, by, turned(one), both(one, other), either(one, other), oneof(one, other), pick(by, one, other),
               kept(one, other, 1), kept(one, other, 0), behind(one, (1, 1, 0)), behind(one, BITS_16)]
        self.assertEqual(run(pieces, 60), due)

    def test_a_keeper_that_is_fed_back_divides_and_roots(self):
        row, by = row_of(("counter", 16, 5, 0), 4, 300), row_of(("counter", 15, 4, 0), 9, 300)
        out, fed, _, _ = divided(row, by, ("turned", 4, 0), 16, 3)
        self.assertEqual(run(QUOTIENT, 300), [row, by, out, fed])
        root = (("make", ("counter", 16, 5, 0), 4), ("keeper", 0, 3, ("turned", 4, 0), 16, 3), ("late", 1, (0,)), ("both", 1, 2))
        out, fed, _, _ = rooted(row, ("turned", 4, 0), 16, 3)
        self.assertEqual(run(root, 300), [row, out, (0,) + out[:-1], fed])

    def test_one_late_of_itself_goes_round(self):
        self.assertEqual(run((("late", 0, (1, 0, 0)),), 8), [(1, 0, 0, 1, 0, 0, 1, 0)])
        self.assertEqual(run((("late", 0, BITS_16),), 40), [(BITS_16 * 3)[:40]])

    def test_a_keeper_of_most_1_and_of_64(self):
        self.assertEqual(run((ALWAYS, NEVER, ("keeper", 0, 1, ("table", (0,)), 1, 0)), 4)[2], (0, 1, 1, 1))
        self.assertEqual(run((ALWAYS, NEVER, ("keeper", 0, 1, ("table", (63,)), 64, 0)), 70)[2], (0,) * 64 + (1,) * 6)
        self.assertEqual(run((ALWAYS, NEVER, ("keeper", 1, 0, ("table", (63,)), 64, 64)), 4)[2], (1, 0, 0, 0))
        self.assertEqual(run((ALWAYS, NEVER, ("keeper", 1, 0, ("table", (0,)), 64, 64)), 70)[2], (1,) * 64 + (0,) * 6)


class Machines(unittest.TestCase):
    def test_beat_by_beat_it_tells_what_run_tells(self):
        for pieces in HANDED + SOME[::5]:
            machine = Machine(pieces)
            self.assertEqual((machine.beats_now(), machine.ones_now()), (0, [0] * len(pieces)))
            rows = run(pieces, 60)
            for t in range(60):
                self.assertEqual(kinds(machine.beat()), kinds(tuple(row[t] for row in rows)))
                self.assertEqual(kinds(machine.beats_now()), kinds(t + 1))
                self.assertEqual(kinds(machine.ones_now()), kinds([sum(row[:t + 1]) for row in rows]))

    def test_two_machines_have_nothing_in_common(self):
        one, other = Machine(TWENTY_FOUR), Machine(TWENTY_FOUR)
        rows = run(TWENTY_FOUR, 40)
        for _ in range(25):
            one.beat()
        self.assertEqual((other.beats_now(), other.ones_now()), (0, [0] * 24))
        self.assertEqual([other.beat() for _ in range(40)], list(zip(*rows)))
        self.assertEqual(one.beats_now(), 25)
        self.assertEqual([one.beat() for _ in range(15)], list(zip(*rows))[25:])

    def test_what_it_tells_is_the_askers_own(self):
        machine = Machine(ALL_KINDS)
        for _ in range(30):
            machine.beat()
        told = machine.ones_now()
        keep = list(told)
        self.assertIsNot(machine.ones_now(), told)
        told.clear()
        self.assertEqual(machine.ones_now(), keep)
        later = machine.ones_now()
        machine.beat()
        self.assertEqual(later, keep)
        self.assertEqual(machine.ones_now(), [sum(row) for row in run(ALL_KINDS, 31)])

    def test_asking_changes_nothing(self):
        machine = Machine(ALL_KINDS)
        for t in range(40):
            for _ in range(3):
                self.assertEqual(machine.beats_now(), t)
                machine.ones_now()
            self.assertEqual(machine.beat(), tuple(row[t] for row in run(ALL_KINDS, t + 1)))

    def test_each_method_stands_in_the_class_itself(self):
        for name in ("beat", "beats_now", "ones_now"):
            self.assertIn(name, vars(Machine))


class Settles(unittest.TestCase):
    def test_by_hand(self):
        self.assertEqual(settles((ALWAYS,)), (0, 1))
        self.assertEqual(settles((("make", C4, 0),)), (0, 4))
        self.assertEqual(settles((("make", C4, 2), ("make", C5, 3))), (0, 20))
        self.assertEqual(settles((("make", C4, 2), ("make", ("counter", 6, 1, 0), 3))), (0, 12))
        self.assertEqual(settles((("late", 0, (1, 0, 0)),)), (0, 3))
        self.assertEqual(settles((("late", 0, (1, 0, 1, 0)),)), (0, 2))
        self.assertEqual(settles((("late", 0, BITS_16),)), (0, 16))
        self.assertEqual(settles((ALWAYS, ("late", 0, (1, 1, 1)))), (0, 1))
        self.assertEqual(settles((ALWAYS, ("late", 0, (1, 0, 1)))), (2, 1))
        self.assertEqual(settles((ALWAYS, ("late", 0, (0,) * 16))), (16, 1))
        self.assertEqual(settles((ALWAYS, NEVER, ("keep", 1, 0, 0))), (0, 1))
        self.assertEqual(settles((ALWAYS, NEVER, ("keep", 1, 0, 1))), (1, 1))
        self.assertEqual(settles((ALWAYS, NEVER, ("keep", 0, 1, 0))), (0, 1))
        self.assertEqual(settles((ALWAYS, NEVER, ("keeper", 0, 1, C4, 64, 0))), (64, 4))
        self.assertEqual(settles((ALWAYS, NEVER, ("keeper", 1, 0, C4, 64, 7))), (7, 4))
        self.assertEqual(settles((ALWAYS, NEVER, ("keeper", 0, 0, C4, 64, 7))), (0, 4))

    def test_of_some(self):
        later = 0
        for pieces in SOME:
            told = settles(pieces)
            due = ByTheWords(pieces, 600).settles(600)
            self.assertIsNotNone(due, pieces)
            self.assertEqual(kinds(told), kinds(due), pieces)
            later += due[0] > 0
        self.assertGreater(later, 30)
        self.assertGreater(len(SOME) - later, 30)

    def test_a_makers_round_counts_though_its_row_is_shorter(self):
        self.assertEqual(settles((("make", C64, 64), ("make", ("counter", 7, 1, 0), 0))), (0, 448))
        self.assertEqual(settles((("make", ("slow", 64, C64), 0),)), (0, 4096))
        self.assertEqual(settles((ALWAYS, ("keeper", 0, 0, ("slow", 64, C64), 1, 0))), (0, 4096))

    def test_what_a_keep_holds_counts_though_it_is_not_asked_of(self):
        first = ("late", 0, (1, 0, 0, 0))
        self.assertEqual(settles((first, NEVER, ("keep", 1, 0, 1))), (1, 4))
        self.assertEqual(settles((first, NEVER, ("keep", 1, 0, 0))), (0, 4))

    def test_8192_together_and_one_more(self):
        for pieces, length in ((LONG_ROUND, 8191), (THREE_MAKERS, 8190)):
            self.assertEqual(settles(pieces), (0, length))
            for ahead in (8192 - length, 8193 - length):
                # Ones that run out behind so many beats.
                longer = pieces + (NEVER, ("late", len(pieces), (1,) * ahead))
                self.assertTrue(is_machine(longer))
                due = (ahead, length) if ahead + length <= 8192 else None
                self.assertEqual(settles(longer), due)
                if due is not None:
                    self.assertEqual(long_share(longer, len(longer) - 1), (0, 1))
                    self.assertEqual(worst_run(longer, len(longer) - 1), ((ahead, 1), ahead))

    def test_where_it_is_none_the_long_run_is_refused(self):
        far = THREE_MAKERS + (NEVER, ("late", 3, (1, 1, 1)))
        for number in range(5):
            for deed in (long_share, worst_run):
                with self.assertRaises(OnesError) as caught:
                    deed(far, number)
                self.assertIs(type(caught.exception), NoRound)

    def test_much_longer_is_none(self):
        far = tuple(("make", ("counter", size, 1, 0), 3) for size in (64, 63, 61, 59))
        self.assertIsNone(settles(far))
        self.assertIsNone(settles((("make", C64, 3), ("make", ("slow", 64, ("counter", 3, 1, 0)), 1), ("make", C5, 1),
                                   ("make", ("slip", 64, ("counter", 63, 1, 0)), 1))))

    def test_behind_ahead_all_goes_round(self):
        for pieces in [ALL_KINDS, QUOTIENT, LONG_ROUND] + SOME:
            ahead, length = settles(pieces)
            for row in run(pieces, ahead + 2 * length + 3):
                self.assertEqual(row[ahead:-length], row[ahead + length:])


class LongRun(unittest.TestCase):
    def test_by_hand(self):
        pieces = (ALWAYS, NEVER, ("late", 0, (0, 0, 0)), ("late", 3, (1, 0, 0)), ("keeper", 0, 1, ("table", (1,)), 2, 0))
        self.assertEqual([long_share(pieces, number) for number in range(5)], [(1, 1), (0, 1), (1, 1), (1, 3), (1, 1)])
        told = [worst_run(pieces, number) for number in range(5)]
        self.assertEqual(told, [((0, 1), 0), ((0, 1), 0), ((3, 1), 3), ((2, 3), 1), ((2, 1), 2)])
        self.assertEqual(worst_run((("late", 0, (0, 0, 1, 1)),), 0), ((1, 1), 2))

    def test_the_share_is_that_of_the_round(self):
        for pieces in [ALL_KINDS, QUOTIENT, LONG_ROUND] + SOME:
            ahead, length = settles(pieces)
            rows = ByTheWords(pieces, ahead + length).rows
            for number in range(0, len(pieces), 1 if len(pieces) < 10 else 4):
                due = as_tuple(Fraction(sum(rows[number][ahead:]), length))
                self.assertEqual(kinds(long_share(pieces, number)), kinds(due))

    def test_a_makers_long_share_is_the_share_told(self):
        for maker in SMALL_MAKERS:
            for k in (0, 1, 2, 64):
                self.assertEqual(long_share((NEVER, ("make", maker, k)), 1), share_told(maker, k))
                self.assertEqual(settles((("make", maker, k),)), (0, round_of(maker)))

    def test_no_number_of_beats_is_off_by_more_and_at_n_it_is_just_so_far_off(self):
        late = 0
        for pieces in [QUOTIENT] + SOME[::2]:
            ahead, length = settles(pieces)
            rows = ByTheWords(pieces, ahead + 3 * length).rows
            for number, row in enumerate(rows):
                share = Fraction(sum(row[ahead:]), 3 * length)
                offs = [Fraction(0)]
                for bit in row:
                    offs.append(offs[-1] + bit - share)
                sizes = [abs(off) for off in offs]
                due = (as_tuple(max(sizes)), sizes.index(max(sizes)))
                self.assertEqual(kinds(worst_run(pieces, number)), kinds(due), pieces)
                late += due[1] > ahead
        self.assertGreater(late, 50)

    def test_it_may_be_off_by_more_behind_ahead(self):
        # Ahead it has 1 too many, and behind that its round begins with two more.
        pieces = (NEVER, ("late", 0, (1,)), ("late", 2, (0, 1, 1, 0, 0, 0)), ("either", 1, 2))
        self.assertEqual(settles(pieces), (1, 6))
        self.assertEqual(worst_run(pieces, 3), ((2, 1), 3))

    def test_of_16_ahead(self):
        pieces = (NEVER, ("late", 0, (1,) * 16), ("late", 0, (0,) * 15 + (1,)))
        self.assertEqual(settles(pieces), (16, 1))
        self.assertEqual([worst_run(pieces, number) for number in (1, 2)], [((16, 1), 16), ((1, 1), 16)])


class BeyondTheBounds(unittest.TestCase):
    def test_no_error_is_raised(self):
        makers = [("turned", -1, 0), ("table", ()), ("counter", 65, 1, 0), ("slow", 0, C4), ("counter", 0, 1, 0)]
        beyond = [(), (ALWAYS,) * 25, (("make", C4, 65),), (("make", C4, -1),), (("less", 0),), (("both", 0, 1), ALWAYS)]
        beyond += [(ALWAYS, ("less", 7)), (ALWAYS, ("pick", -1, 2, 0)), (("late", 0, ()),), (ALWAYS, ("late", 0, ()))]
        beyond += [(ALWAYS, ("late", 5, (1,) * 17)), (ALWAYS, ("keep", 1, 2, 2)), (("keeper", 3, -1, C4, 0, 0),)]
        beyond += [(ALWAYS, ("keeper", 0, 1, C4, 65, 70)), (("keep", 0, 0, 0), ("oneof", 5, -3))]
        beyond += [(("make", maker, 1), ("keeper", 0, 1, maker, 3, 1)) for maker in makers]
        for pieces in beyond:
            self.assertIs(is_machine(pieces), False, pieces)
            for beats in (-1, 0, 5, 4097):
                self.assertEqual([len(row) for row in run(pieces, beats)], [max(beats, 0)] * len(pieces))
            machine = Machine(pieces)
            self.assertEqual(len(machine.beat()), len(pieces))
            self.assertEqual(len(machine.ones_now()), len(pieces))
            if settles(pieces) is not None:
                for number in (-1, 0, 30):
                    long_share(pieces, number)
                    worst_run(pieces, number)


if __name__ == "__main__":
    unittest.main()

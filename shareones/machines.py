"""Machines of pieces, beat by beat, and what comes of them in the long run."""

from shareones.apart import GREATEST_K
from shareones.errors import NoRound
from shareones.formulas import SIDES
from shareones.keeping import moved
from shareones.makers import is_maker, round_of, values_of
from shareones.parts import offs_by
from shareones.rows import is_bit, ones, share_of
from shareones.shares import common_divisor, fraction, is_within

# How many pieces a piece asks of; their numbers stand right behind its word.
ASKED = {"make": 0, "less": 1, "both": 2, "either": 2, "oneof": 2, "pick": 3, "keep": 2, "late": 1, "keeper": 2}
MOST_PIECES = 24
MOST_AHEAD = 16
MOST_HELD = 64
MOST_SETTLING = 8192


def asks_of(piece):
    """Tell the tuple of the numbers of the pieces that a piece asks of."""
    return piece[1:1 + ASKED[piece[0]]]


def is_ahead(thing):
    """Tell whether a thing is what a late may have ahead."""
    return isinstance(thing, tuple) and 1 <= len(thing) <= MOST_AHEAD and all(is_bit(bit) for bit in thing)


def is_shaped(piece):
    """Tell whether a piece is as it must be, whatever stands for the numbers of pieces in it."""
    match piece:
        case ("make", maker, k):
            return is_maker(maker) and is_within(k, 0, GREATEST_K)
        case ("keep", a, b, first):
            return is_bit(first)
        case ("late", a, ahead):
            return is_ahead(ahead)
        case ("keeper", a, b, maker, most, at):
            return is_maker(maker) and is_within(most, 1, MOST_HELD) and is_within(at, 0, most)
        case _:
            return piece[0] in SIDES and len(piece) == 1 + SIDES[piece[0]]


def is_piece(thing, number, many):
    """Tell whether a thing may be the piece of this number in a machine of so many."""
    if not isinstance(thing, tuple) or not thing or not isinstance(thing[0], str) or not is_shaped(thing):
        return False
    # These two have their bit before anything is asked of in a beat.
    greatest = many - 1 if thing[0] in ("late", "keeper") else number - 1
    return all(is_within(asked, 0, greatest) for asked in asks_of(thing))


def is_machine(thing):
    """Tell whether a thing is a machine."""
    if not isinstance(thing, tuple) or not 1 <= len(thing) <= MOST_PIECES:
        return False
    return all(is_piece(piece, number, len(thing)) for number, piece in enumerate(thing))


def round_numbers(maker):
    """Tell the list of a maker's numbers over a round."""
    # A round of no beats is beyond the bounds, but nothing is to be raised for it.
    return values_of(maker, max(round_of(maker), 1))


def numbers_of(piece):
    """Tell the list of the numbers over a round of a piece's maker, of just a nought where it has none."""
    match piece:
        case ("make", maker, k):
            return round_numbers(maker)
        case ("keeper", a, b, maker, most, at):
            return round_numbers(maker)
        case _:
            return [0]


def common_length(lists):
    """Tell the least common multiple of the lengths of lists, none of them empty."""
    common = 1
    for numbers in lists:
        common = common * len(numbers) // common_divisor(common, len(numbers))
    return common


def held_first(piece):
    """Tell what a piece holds ahead of beat 0, beside its maker's place."""
    match piece:
        case ("keep", a, b, first):
            return first
        case ("late", a, ahead):
            return ahead
        case ("keeper", a, b, maker, most, at):
            return at
        case _:
            return None


def bits_asked(asks, bits):
    """Tell the list of the bits of the pieces that are asked of."""
    # A piece that has no bit yet, or is not there at all, counts as 0: late and keeper do not need
    # it yet, and for the others it is beyond the bounds, but nothing is to be raised for it.
    return [bits.get(asked, 0) for asked in asks]


def bit_of(piece, number, held, asked):
    """Tell a piece's bit of a beat, from its maker's number, what it holds and the bits it asks of."""
    match [piece[0], *asked]:
        case ["make"]:
            return 1 if number < piece[2] else 0
        case ["less", a]:
            return 1 - a
        case ["both", a, b]:
            return a & b
        case ["either", a, b]:
            return a | b
        case ["oneof", a, b]:
            return a ^ b
        case ["pick", a, b, c]:
            return b if a == 1 else c
        case ["keep", a, b]:
            return a if b == 1 else held
        case ["late", a]:
            # Nothing ahead is beyond the bounds: then it comes no later than a's bit.
            return held[0] if held else a
        case ["keeper", a, b]:
            return 1 if number < held else 0


def held_behind(piece, held, own, asked):
    """Tell what a piece holds behind a beat, in which it had its own bit and those asked of had theirs."""
    match [piece[0], *asked]:
        case ["keep", a, b]:
            return own
        case ["late", a]:
            return (held + (a,))[1:]
        case ["keeper", up, down]:
            return moved(piece[4], held, up, down)


class Machine:
    """Pieces that have a bit each at each beat."""

    def __init__(self, pieces):
        self.pieces = pieces
        self.asks = [asks_of(piece) for piece in pieces]
        self.numbers = [numbers_of(piece) for piece in pieces]
        self.common = common_length(self.numbers)
        self.held = [held_first(piece) for piece in pieces]
        self.holding = [at for at in range(len(pieces)) if self.held[at] is not None]
        self.counts = [0] * len(pieces)
        self.beats = 0

    def beat(self):
        """Let one beat pass, and tell the tuple of all pieces' bits."""
        bits = {}
        for at, piece in enumerate(self.pieces):
            number = self.numbers[at][self.beats % len(self.numbers[at])]
            bits[at] = bit_of(piece, number, self.held[at], bits_asked(self.asks[at], bits))
            self.counts[at] += bits[at]
        for at in self.holding:
            asked = bits_asked(self.asks[at], bits)
            self.held[at] = held_behind(self.pieces[at], self.held[at], bits[at], asked)
        self.beats += 1
        return tuple(bits.values())

    def beats_now(self):
        """Tell how many beats have passed."""
        return self.beats

    def ones_now(self):
        """Tell the list of how many ones each piece has had."""
        return list(self.counts)

    def held_now(self):
        """Tell the tuple of all that is held ahead of the next beat."""
        # Where they are in their common round tells just as much as each maker's place in its own.
        return (self.beats % self.common, *self.held)


def run(pieces, beats):
    """Tell the list of all pieces' rows of so many beats."""
    machine = Machine(pieces)
    told = []
    for t in range(beats):
        told.append(machine.beat())
    return [tuple(bits[at] for bits in told) for at in range(len(pieces))]


def run_to_settle(pieces):
    """Tell (ahead, told): from which beat on all comes again, and the bits of all beats until it does, or None."""
    machine = Machine(pieces)
    seen = {}
    told = []
    while len(told) <= MOST_SETTLING:
        held = machine.held_now()
        if held in seen:
            return (seen[held], told)
        seen[held] = len(told)
        told.append(machine.beat())
    return None


def settles(pieces):
    """Tell (ahead, round): from which beat on all comes again, and behind how many; None where that is too far."""
    settled = run_to_settle(pieces)
    if settled is None:
        return None
    ahead, told = settled
    return (ahead, len(told) - ahead)


def settled_row(pieces, number):
    """Tell a piece's bits ahead of where all comes again, and its row of the round from there on."""
    settled = run_to_settle(pieces)
    if settled is None:
        raise NoRound("this machine does not settle soon enough")
    ahead, told = settled
    # A piece that is not there is beyond the bounds, but nothing is to be raised for it: it has no ones.
    row = tuple(bits[number] if 0 <= number < len(bits) else 0 for bits in told)
    return (row[:ahead], row[ahead:])


def long_share(pieces, number):
    """Tell the share of a piece's ones in the long run."""
    return share_of(settled_row(pieces, number)[1])


def worst_run(pieces, number):
    """Tell (off, n): by what a piece's ones of the first n beats are off its long share at the most, the least n."""
    begin, again = settled_row(pieces, number)
    sizes = [abs(off) for off in offs_by(begin + again, ones(again), len(again))]
    worst = max(sizes)
    return (fraction(worst, len(again)), sizes.index(worst))

"""Keeping: rows that keep their bit until another one is taken, and Keepers that hold a number by ups and downs."""

from shareones.errors import NoOne
from shareones.makers import values_of
from shareones.rows import refuse_unlike


def kept(upper, lower, first):
    """Tell the row with upper's bit where lower has 1, else its own bit of the place ahead, first at the begin."""
    refuse_unlike([upper, lower])
    told = []
    held = first
    for bit, taken in zip(upper, lower):
        if taken == 1:
            held = bit
        told.append(held)
    return tuple(told)


def refuse_no_one(row):
    """Refuse a row that has no 1."""
    if 1 not in row:
        raise NoOne("this row has no 1")


def kept_round(upper, lower):
    """Tell the row that is kept so, too, the last place being the one ahead of the first."""
    refuse_unlike([upper, lower])
    refuse_no_one(lower)
    # Behind the last 1 of lower it no longer matters what it began with.
    return kept(upper, lower, kept(upper, lower, 0)[-1])


def held_for(lower):
    """Tell for each place 0 where lower has 0, else how many places, round about, its bit is kept."""
    refuse_no_one(lower)
    taken = [at for at in range(len(lower)) if lower[at] == 1]
    held = [0] * len(lower)
    for at, end in zip(taken, taken[1:] + [taken[0] + len(lower)]):
        held[at] = end - at
    return held


def moved(most, at, up, down):
    """Tell what a Keeper that holds at holds behind a beat with these two bits."""
    if (up > down and at >= most) or (up < down and at <= 0):
        return at
    return at + up - down


class Keeper:
    """Holds a number from 0 to most, which goes up and down by one, and counts what is lost at its ends."""

    def __init__(self, most, at):
        self.most = most
        self.at = at
        self.ups_lost = 0
        self.downs_lost = 0
        self.beats = 0

    def beat(self, up, down):
        """Let one beat pass with these two bits, and tell the number that is held then."""
        held = moved(self.most, self.at, up, down)
        if up > down and held == self.at:
            self.ups_lost += 1
        if up < down and held == self.at:
            self.downs_lost += 1
        self.at = held
        self.beats += 1
        return held

    def at_now(self):
        """Tell the number that is held."""
        return self.at

    def lost_now(self):
        """Tell the pair of how many ups and how many downs were lost."""
        return (self.ups_lost, self.downs_lost)

    def beats_now(self):
        """Tell how many beats have passed."""
        return self.beats


def fed_back(row, by, maker, most, at):
    """Tell (out, fed, at, lost) of a Keeper; by None stands for out's own bits, each a beat late."""
    keeper = Keeper(most, at)
    out = []
    fed = []
    ahead = 0
    for t, number in enumerate(values_of(maker, len(row))):
        bit = 1 if number < keeper.at_now() else 0
        back = bit & (ahead if by is None else by[t])
        keeper.beat(row[t], back)
        out.append(bit)
        fed.append(back)
        ahead = bit
    return (tuple(out), tuple(fed), keeper.at_now(), keeper.lost_now())


def divided(row, by, maker, most, at):
    """Tell (out, fed, at, lost) of a Keeper that row's bits bring up, and out's where by has 1 bring down."""
    refuse_unlike([row, by])
    return fed_back(row, by, maker, most, at)


def rooted(row, maker, most, at):
    """Tell (out, fed, at, lost) of a Keeper that row's bits bring up, and out's where out was 1 before bring down."""
    return fed_back(row, None, maker, most, at)

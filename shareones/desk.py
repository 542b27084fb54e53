"""The desk: sheets that name makers and rows and ask of them, and the answers."""

from shareones.apart import GREATEST_K, apart, common_round
from shareones.errors import BadSheet, BadText, NoOne, Unlike
from shareones.keeping import kept_round
from shareones.leaning import lean
from shareones.makers import round_of, row_of, share_told
from shareones.parts import worst_part
from shareones.rows import LONGEST, both, either, oneof, pick, share_of, turned
from shareones.shares import is_within
from shareones.texts import maker_from, number_from, row_from

# What stands behind the first word of each row that names something, the new name itself left out.
NAMING = {
    "maker": ("maker text",), "bits": ("row text",), "make": ("maker", "k", "beats"), "less": ("row",),
    "both": ("row", "row"), "either": ("row", "row"), "oneof": ("row", "row"), "pick": ("row", "row", "row"),
    "kept": ("row", "row"),
}
# Likewise of each row that asks.
ASKING = {
    "round": ("maker",), "apart": ("maker", "maker"), "told": ("maker", "k"), "share": ("row",), "lean": ("row", "row"),
    "part": ("row",),
}
LETTERS = "abcdefghijklmnopqrstuvwxyz"
LONGEST_NAME = 8
MOST_BEATS = 400


class Desk:
    """What a sheet has named and told so far."""

    def __init__(self):
        self.makers = {}
        self.rows = {}
        self.told = []


def is_name(text):
    """Tell whether a text may be the name of a maker or a row."""
    return 1 <= len(text) <= LONGEST_NAME and all(sign in LETTERS for sign in text)


def number_within(text, least, greatest):
    """Tell the number that a text tells, None where it tells none from least to greatest."""
    number = number_from(text)
    return number if is_within(number, least, greatest) else None


def thing_from(kind, text):
    """Tell the maker or row whose text it is, None where it is no such text."""
    try:
        return maker_from(text) if kind == "maker text" else row_from(text)
    except BadText:
        return None


def thing_meant(desk, kind, text):
    """Tell the thing of this kind that a text in a sheet's row stands for, None where there is none."""
    match kind:
        case "maker":
            return desk.makers.get(text)
        case "row":
            return desk.rows.get(text)
        case "k":
            return number_within(text, 0, GREATEST_K)
        case "beats":
            return number_within(text, 1, MOST_BEATS)
        case _:
            return thing_from(kind, text)


def things_meant(desk, kinds, texts):
    """Tell the list of the things that the texts stand for, one of each kind, None where one is not there."""
    if len(kinds) != len(texts):
        return None
    things = [thing_meant(desk, kind, text) for kind, text in zip(kinds, texts)]
    return None if None in things else things


def row_made(word, things):
    """Tell the row that a naming row of this word and these things names."""
    match [word, *things]:
        case ["bits", row]:
            return row
        case ["make", maker, k, beats]:
            return row_of(maker, k, beats)
        case ["less", row]:
            return turned(row)
        case ["both", one, other]:
            return both(one, other)
        case ["either", one, other]:
            return either(one, other)
        case ["oneof", one, other]:
            return oneof(one, other)
        case ["pick", by, one, other]:
            return pick(by, one, other)
        case ["kept", upper, lower]:
            return kept_round(upper, lower)


def give_name(desk, word, name, things):
    """Give a name to what a naming row makes, or tell why it is refused."""
    if word == "maker":
        desk.makers[name] = things[0]
        return
    try:
        desk.rows[name] = row_made(word, things)
    except Unlike:
        desk.told.append("unlike")
    except NoOne:
        desk.told.append("no one")


def fraction_text(told):
    """Tell the text of a fraction."""
    top, bottom = told
    return f"{top}/{bottom}"


def apart_text(one, other):
    """Tell the text of whether two makers are apart."""
    if common_round([one, other]) > LONGEST:
        return "far"
    match apart(one, other):
        case ("lean", k, other_k, met, due):
            return f"lean {k} {other_k} {met} {fraction_text(due)}"
        case ("apart", length):
            return f"apart {length}"


def lean_text(one, other):
    """Tell the text of how two rows lean."""
    try:
        return str(lean(one, other))
    except Unlike:
        return "unlike"


def worst_text(row):
    """Tell the text of a row's worst part."""
    off, n = worst_part(row)
    return f"{fraction_text(off)} {n}"


def answer_text(word, things):
    """Tell the text that an asking row of this word and these things is answered by."""
    match [word, *things]:
        case ["round", maker]:
            return str(round_of(maker))
        case ["apart", one, other]:
            return apart_text(one, other)
        case ["told", maker, k]:
            return fraction_text(share_told(maker, k))
        case ["share", row]:
            return fraction_text(share_of(row))
        case ["lean", one, other]:
            return lean_text(one, other)
        case ["part", row]:
            return worst_text(row)


def words_of(text):
    """Tell the list of the words of a sheet's row, a maker's text being one of them."""
    if text.startswith("maker "):
        return text.split(" ", 2)
    return text.split(" ")


def do_row(desk, text):
    """Do what a sheet's row says, and tell whether it is so written and all it asks of is there."""
    word, *texts = words_of(text)
    if word in ASKING:
        things = things_meant(desk, ASKING[word], texts)
        if things is None:
            return False
        desk.told.append(answer_text(word, things))
        return True
    if word not in NAMING or not texts or not is_name(texts[0]):
        return False
    things = things_meant(desk, NAMING[word], texts[1:])
    if things is None:
        return False
    give_name(desk, word, texts[0], things)
    return True


def answers(text):
    """Tell the list of the answers to a sheet."""
    desk = Desk()
    for number, row in enumerate(text.split("\n")):
        if row and not do_row(desk, row):
            raise BadSheet(number)
    return desk.told

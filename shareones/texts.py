"""Texts of rows, makers and formulas, and the things that are read from them."""

from shareones.errors import BadText
from shareones.formulas import DEEPEST, is_formula
from shareones.makers import is_maker
from shareones.rows import is_row

# No number in any of these texts, or in a sheet, has more figures.
MOST_FIGURES = 3


def row_text(row):
    """Tell the text of a row."""
    return "".join(str(bit) for bit in row)


def part_text(part):
    """Tell the text of a part of a maker or formula."""
    if isinstance(part, tuple):
        return f"({nested_text(part)})"
    return str(part)


def nested_text(thing):
    """Tell the text of a maker or formula."""
    parts = thing
    if thing[0] == "table":
        parts = ("table",) + thing[1]
    return " ".join(part_text(part) for part in parts)


def maker_text(maker):
    """Tell the text of a maker."""
    return nested_text(maker)


def formula_text(formula):
    """Tell the text of a formula."""
    return nested_text(formula)


def number_from(text):
    """Tell the number that a text of plain figures tells, None where it is no such text or the number is too great."""
    if not text.isascii() or not text.isdigit() or len(text) > MOST_FIGURES:
        return None
    number = int(text)
    if str(number) != text:
        return None
    return number


def word_from(text):
    """Tell the number that a word of a text tells, the word itself where it tells none."""
    number = number_from(text)
    if number is None:
        return text
    return number


def shaped(parts):
    """Tell the tuple of the parts of a maker or formula, as they are read."""
    if parts[:1] == ["table"]:
        return ("table", tuple(parts[1:]))
    return tuple(parts)


def nested_from(text):
    """Tell the tuple whose text it would be, whatever its words and numbers; None where its brackets are wrong."""
    # A blank that is already there, where one is put in, leaves a word without signs, which nothing has.
    words = text.replace("(", "( ").replace(")", " )").split(" ")
    levels = [[]]
    for word in words:
        if word == "(":
            levels.append([])
        elif word == ")" and len(levels) > 1:
            inner = shaped(levels.pop())
            levels[-1].append(inner)
        else:
            levels[-1].append(word_from(word))
        # A stop here, so that what is told is never deeper than what may be asked of.
        if len(levels) > DEEPEST:
            return None
    return shaped(levels[0]) if len(levels) == 1 else None


def row_from(text):
    """Tell the row whose text it is."""
    row = tuple(word_from(sign) for sign in text)
    if not is_row(row):
        raise BadText("this is no row's text")
    return row


def maker_from(text):
    """Tell the maker whose text it is."""
    maker = nested_from(text)
    if not is_maker(maker):
        raise BadText("this is no maker's text")
    return maker


def formula_from(text):
    """Tell the formula whose text it is."""
    formula = nested_from(text)
    if not is_formula(formula):
        raise BadText("this is no formula's text")
    return formula

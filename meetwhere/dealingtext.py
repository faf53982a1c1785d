"""Texts of dealings."""
from meetwhere.dealings import Dealing
from meetwhere.sorts import Sorts
from meetwhere.storetext import check_text, read_filled, read_listed, read_number, read_word, row_text
from meetwhere.widths import check_widths

FURTHER = ("; ", "")


def _listed(numbers):
    """Return numbers with commas between."""
    return ", ".join([str(number) for number in numbers])


def dealing_text(dealing):
    """Return the text of a dealing."""
    sorts = dealing.sorts
    named = _listed(sorts.named) if sorts.named else "none"
    lots = [f"; {row_text(kind)} to {_listed(lot)}" for kind, lot in dealing.rule]
    return f"hands {dealing.hands}; modulus {sorts.modulus}; named {named}" + "".join(lots)


def _read_behind(text, at, word):
    """Read a number behind a word."""
    _, at = read_word(text, at, (word,))
    return read_number(text, at)


def _read_named(text, at):
    """Read named values up to the first kind or the end; return them, the word behind and the place behind that."""
    if text[at:at + 1] == "n":
        _, at = read_word(text, at, ("none",))
        word, at = read_word(text, at, FURTHER)
        return (), word, at
    return read_listed(text, at, read_number, ", ", FURTHER)


def _read_rule(text, at):
    """Read kinds with their lots up to the end of the text."""
    rule = []
    word = "; "
    while word == "; ":
        kind, at = read_filled(text, at, read_number)
        _, at = read_word(text, at, (" to ",))
        lot, word, at = read_listed(text, at, read_number, ", ", FURTHER)
        rule.append((kind, lot))
    return rule


def read_dealing(widths, text):
    """Return the dealing of which this is the text."""
    tables = check_widths(widths)
    check_text(text)
    hands, at = _read_behind(text, 0, "hands ")
    modulus, at = _read_behind(text, at, "; modulus ")
    _, at = read_word(text, at, ("; named ",))
    named, word, at = _read_named(text, at)
    rule = _read_rule(text, at) if word == "; " else []
    return Dealing(tables, Sorts(named, modulus), hands, rule)

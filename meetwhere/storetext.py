"""Texts of rows and stores, and what reads texts.

Each function here that reads takes a text and the place where it goes on, and returns what it read and the place
behind that. Wherever one of them stops, what was read so far can still be the beginning of a text of the form:
so the place where nothing fits is the place to tell.
"""
from meetwhere.errors import BadText
from meetwhere.stores import GREATEST_VALUE, check_store
from meetwhere.widths import check_widths

TABLES = ("0", "1", "2", "3", "4", "5")
FIGURES = ("0", "1", "2", "3", "4", "5", "6", "7", "8", "9")


def row_text(row):
    """Return the text of a row, an atom or a kind."""
    table, things = row
    inner = ", ".join([str(thing) for thing in things])
    return f"{table}({inner})"


def store_text(store):
    """Return the text of a store."""
    return "; ".join([row_text(row) for row in store]) if store else "empty"


def _shared_length(text, at, word):
    """Return how many signs the word and the text from this place on have in common."""
    many = 0
    for sign in word:
        if text[at + many:at + many + 1] != sign:
            break
        many += 1
    return many


def _stands_at(text, at, word):
    """Return whether the word stands at this place; the empty word stands at the end alone."""
    return text[at:at + len(word)] == word if word else at == len(text)


def read_word(text, at, words):
    """Read the one of the words that stands at this place; none of the words begins with another one."""
    for word in words:
        if _stands_at(text, at, word):
            return word, at + len(word)
    raise BadText(at + max([_shared_length(text, at, word) for word in words]))


def _is_number(figures):
    """Return whether figures are a whole number without needless zeros that is no greater than a value."""
    return (figures[0] != "0" or len(figures) == 1) and int(figures) <= GREATEST_VALUE


def read_number(text, at):
    """Read a whole number from 0 to the greatest value."""
    end = at
    # Figure by figure, for Python refuses to make a number of thousands of figures.
    while end < len(text) and text[end] in FIGURES and _is_number(text[at:end + 1]):
        end += 1
    if end == at:
        raise BadText(at)
    return int(text[at:end]), end


def read_listed(text, at, read_thing, between, ends):
    """Read things up to one of the ends, with a word between; return them, this end and the place behind it."""
    things = []
    word = between
    while word == between:
        thing, at = read_thing(text, at)
        things.append(thing)
        word, at = read_word(text, at, (between,) + ends)
    return tuple(things), word, at


def read_filled(text, at, read_thing):
    """Read a table's number and things in brackets."""
    table, at = read_word(text, at, TABLES)
    _, at = read_word(text, at, ("(",))
    things, _, at = read_listed(text, at, read_thing, ", ", (")",))
    return (int(table), things), at


def _read_row(text, at):
    """Read a row."""
    return read_filled(text, at, read_number)


def is_only(text, word):
    """Return whether the text is the word; refuse it if it begins as the word does and is not."""
    if text[:1] != word[:1]:
        return False
    _, at = read_word(text, 0, (word,))
    read_word(text, at, ("",))
    return True


def check_text(text):
    """Refuse a thing that is no text."""
    if not isinstance(text, str):
        raise BadText(0)


def read_store(widths, text):
    """Return the store of which this is the text."""
    tables = check_widths(widths)
    check_text(text)
    if is_only(text, "empty"):
        return ()
    listed = read_listed(text, 0, _read_row, "; ", ("",))
    return check_store(tables, listed[0])

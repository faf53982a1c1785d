"""Edits of dealings, which put in or strike single copies or those of whole tables."""
from meetwhere.dealings import all_kinds, as_copy
from meetwhere.errors import BadEdits
from meetwhere.needless import copies_of
from meetwhere.widths import is_sequence_of, is_whole

COPY_WORDS = ("copy", "strike")
TABLE_WORDS = ("fill", "clear")
PUTTING_WORDS = ("copy", "fill")
MOST_EDITS = 6


def as_edit(dealing, thing):
    """Return a thing of any kind as an edit of a dealing with tuples, None if it is none."""
    if not is_sequence_of(thing, 3, 3):
        return None
    word, target, hand = thing
    if word in COPY_WORDS:
        copy = as_copy(dealing, (target, hand))
        return None if copy is None else (word,) + copy
    if word not in TABLE_WORDS or not is_whole(target, 0, len(dealing.widths) - 1):
        return None
    return (word, target, hand) if is_whole(hand, 0, dealing.hands - 1) else None


def _copies_in(dealing, edit):
    """Return the copies of which an edit tells whether they are held."""
    word, target, hand = edit
    if word in COPY_WORDS:
        return [(target, hand)]
    return [(kind, hand) for kind in all_kinds(dealing.widths, dealing.sorts) if kind[0] == target]


def with_edits(dealing, edits):
    """Return the dealing behind checked edits, any number of them, one after another."""
    held = {copy: True for copy in copies_of(dealing)}
    for edit in edits:
        for copy in _copies_in(dealing, edit):
            held[copy] = edit[0] in PUTTING_WORDS
    return dealing.with_copies([copy for copy in held if held[copy]])


def _check_many(dealing, edits, fewest):
    """Return edits of a dealing, so many or more, with tuples."""
    if not is_sequence_of(edits, fewest, MOST_EDITS):
        raise BadEdits(0)
    checked = []
    for index, thing in enumerate(edits):
        edit = as_edit(dealing, thing)
        if edit is None:
            raise BadEdits(index)
        checked.append(edit)
    return tuple(checked)


def edited_dealing(dealing, edits):
    """Return the dealing behind edits, done one after another."""
    return with_edits(dealing, _check_many(dealing, edits, 0))


def check_edits(dealing, pool):
    """Return a pool of edits with tuples."""
    return _check_many(dealing, pool, 1)

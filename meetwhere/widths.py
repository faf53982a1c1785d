"""Whole numbers, sequences and the widths of tables."""
from meetwhere.errors import BadWidths

MOST_TABLES = 6
MOST_COLUMNS = 3


def is_whole(thing, low=None, high=None):
    """Return whether a thing of any kind is a whole number from low to high."""
    if not isinstance(thing, int) or isinstance(thing, bool):
        return False
    return (low is None or thing >= low) and (high is None or thing <= high)


def is_sequence(thing):
    """Return whether a thing of any kind is a list or a tuple."""
    return isinstance(thing, (list, tuple))


def is_sequence_of(thing, low, high):
    """Return whether a thing of any kind is a sequence of low to high things."""
    return is_sequence(thing) and low <= len(thing) <= high


def is_same(thing, wanted):
    """Return whether a thing of any kind is what is wanted, whole numbers in tuples, with no True for 1."""
    if not isinstance(wanted, tuple):
        return is_whole(thing) and thing == wanted
    if not isinstance(thing, tuple) or len(thing) != len(wanted):
        return False
    return all([is_same(part, other) for part, other in zip(thing, wanted)])


def check_widths(widths):
    """Return the widths as a tuple."""
    if not is_sequence_of(widths, 1, MOST_TABLES):
        raise BadWidths(0)
    for index, width in enumerate(widths):
        if not is_whole(width, 1, MOST_COLUMNS):
            raise BadWidths(index)
    return tuple(widths)

"""Dealings over other sorts that deal rows alike, and rows that two dealings deal unlike."""
from math import lcm

from meetwhere.dealings import Dealing, all_kinds, count_rows_over, rows_over
from meetwhere.errors import Apart, BadFactor, BadNamed, TooMany
from meetwhere.sorts import MOST_MODULUS, MOST_NAMED, Sorts
from meetwhere.stores import is_value
from meetwhere.widths import is_whole

MOST_COMPARED = 5000


class UnlikeRow:
    """A row that two dealings give to unlike lots."""

    def __init__(self, row):
        self.row = row

    def __eq__(self, other):
        return isinstance(other, UnlikeRow) and self.row == other.row


def _sorted_anew(dealing, sorts):
    """Return the dealing over other sorts that gives each kind the lot that one row of this kind has."""
    old = [dealing.sorts.sort_of(sorts.value_of(sort, 0)) for sort in range(sorts.many)]
    rule = []
    for table, row in all_kinds(dealing.widths, sorts):
        rule.append(((table, row), dealing.lot_at((table, tuple([old[sort] for sort in row])))))
    return Dealing(dealing.widths, sorts, dealing.hands, rule)


def finer(dealing, factor):
    """Return the dealing with a modulus that is a multiple, which deals every row alike."""
    named, modulus = dealing.sorts.named, dealing.sorts.modulus
    if not is_whole(factor, 1, MOST_MODULUS) or modulus * factor > MOST_MODULUS:
        raise BadFactor(factor)
    return _sorted_anew(dealing, Sorts(named, modulus * factor))


def with_named(dealing, value):
    """Return the dealing with one more named value, which deals every row alike."""
    named = dealing.sorts.named
    if not is_value(value) or value in named or len(named) == MOST_NAMED:
        raise BadNamed(value)
    return _sorted_anew(dealing, Sorts(sorted(list(named) + [value]), dealing.sorts.modulus))


def _uses_of(dealing):
    """Return for each sort the lots that kinds have with it, in an order that is the same for all sorts."""
    uses = [[] for _ in range(dealing.sorts.many)]
    for table, row in all_kinds(dealing.widths, dealing.sorts):
        lot = dealing.lot_at((table, row))
        for place, sort in enumerate(row):
            uses[sort].append((table, place, row[:place] + row[place + 1:], lot))
    return [sorted(told) for told in uses]


def _is_enough(uses, modulus, lesser):
    """Return whether a lesser modulus parts the remainder sorts, told by their uses, as they need it."""
    return modulus % lesser == 0 and all([uses[r] == uses[r % lesser] for r in range(modulus)])


def coarsest(dealing):
    """Return the dealing of the least modulus, then the fewest named values, that deals every row alike."""
    named, modulus = dealing.sorts.named, dealing.sorts.modulus
    uses = _uses_of(dealing)
    alone = uses[:len(named)]
    others = uses[len(named):]
    least = min([lesser for lesser in range(1, modulus + 1) if _is_enough(others, modulus, lesser)])
    kept = [value for value, told in zip(named, alone) if told != others[value % modulus]]
    return _sorted_anew(dealing, Sorts(kept, least))


def _telling_values(one, other):
    """Return values that are enough to tell two dealings apart, ascending."""
    named = sorted(set(one.sorts.named + other.sorts.named))
    modulus = lcm(one.sorts.modulus, other.sorts.modulus)
    # The sorts of the common modulus may have more named values and a greater modulus than Sorts takes.
    left = [value for value in range(modulus * (len(named) + 1)) if value not in named]
    least = {}
    for value in left:
        least.setdefault(value % modulus, value)
    return sorted(named + list(least.values()))


def rows_differ(one, other):
    """Return the first row that two dealings deal unlike, as an UnlikeRow, or None."""
    if one.widths != other.widths:
        raise Apart("widths")
    if one.hands != other.hands:
        raise Apart("hands")
    values = _telling_values(one, other)
    if count_rows_over(one.widths, len(values)) > MOST_COMPARED:
        raise TooMany(MOST_COMPARED)
    for row in rows_over(one.widths, values):
        if one.lot_for(row) != other.lot_for(row):
            return UnlikeRow(row)
    return None

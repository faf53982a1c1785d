"""Dealings that keep the rows of one store apart, and are right wherever one of them is lacking."""
from meetwhere.dealings import Dealing, all_kinds
from meetwhere.errors import EmptyRows, TooMany
from meetwhere.sorts import MOST_NAMED, Sorts
from meetwhere.stores import check_store, store_values
from meetwhere.widths import check_widths

MOST_SPOILED = 8


def make_spoiling(widths, rows):
    """Return the dealing with a hand for each row of a store that holds all kinds but the kind of this row."""
    tables = check_widths(widths)
    store = check_store(tables, rows)
    if not store:
        raise EmptyRows(rows)
    values = store_values(store)
    if len(store) > MOST_SPOILED or len(values) > MOST_NAMED:
        raise TooMany(MOST_SPOILED)
    sorts = Sorts(values, 1)
    lacking = [sorts.kind_of(row) for row in store]
    rule = []
    for kind in all_kinds(tables, sorts):
        rule.append((kind, [hand for hand, other in enumerate(lacking) if other != kind]))
    return Dealing(tables, sorts, len(store), rule)

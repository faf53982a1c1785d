"""How many rows lie at the hands of a dealing, and the shares whose grid spreads a store best."""
from meetwhere.dealt import dealt_stores
from meetwhere.errors import BadMost
from meetwhere.grids import MOST_PRODUCT, lot_in_grid, product_of
from meetwhere.questions import check_question, names_of
from meetwhere.stores import check_store
from meetwhere.widths import check_widths, is_whole


def loads_of(dealing, store):
    """Return for each hand the number of rows of a store that it holds."""
    return tuple([len(part) for part in dealt_stores(dealing, store)])


def greatest_load(dealing, store):
    """Return the greatest number of rows of a store that a hand holds."""
    return max(loads_of(dealing, store))


def count_copies(dealing, store):
    """Return how many rows of a store lie at the hands, a row at two hands counted twice."""
    return sum(loads_of(dealing, store))


def most_copies(dealing):
    """Return the greatest number of hands to which a dealing gives any row."""
    return max([len(lot) for _, lot in dealing.rule], default=0)


def all_shares(question, sorts, most):
    """Return all shares of a question whose product is at most so great, ascending."""
    if not is_whole(most, 1, MOST_PRODUCT):
        raise BadMost(most)
    dividing = [share for share in range(1, sorts.modulus + 1) if sorts.modulus % share == 0]
    found = [()]
    for _ in names_of(question):
        found = [front + (share,) for front in found for share in dividing if product_of(front) * share <= most]
    return tuple(found)


def _load_in_grid(question, sorts, shares, kinds):
    """Return the greatest load of the grid with these shares on rows of these kinds, one row for each."""
    # A whole grid has far more kinds than a store has rows.
    hands = [hand for kind in kinds for hand in lot_in_grid(question, sorts, shares, kind)]
    return max([hands.count(hand) for hand in range(product_of(shares))])


def best_shares(widths, question, sorts, most, store):
    """Return the first shares whose grid has the least greatest load on a store."""
    tables = check_widths(widths)
    asked = check_question(tables, question)
    found = all_shares(asked, sorts, most)
    kinds = [sorts.kind_of(row) for row in check_store(tables, store)]
    loads = [_load_in_grid(asked, sorts, shares, kinds) for shares in found]
    return found[loads.index(min(loads))]

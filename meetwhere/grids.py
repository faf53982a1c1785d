"""Grids: dealings whose hands are numbered by one coordinate for each name of a question."""
from meetwhere.dealings import Dealing, all_kinds
from meetwhere.errors import BadShares
from meetwhere.questions import check_question, is_name, names_of
from meetwhere.widths import check_widths, is_sequence_of, is_whole

MOST_PRODUCT = 8


def product_of(shares):
    """Return the number of hands of a grid with these shares."""
    many = 1
    for share in shares:
        many = many * share
    return many


def check_shares(question, sorts, shares):
    """Return the shares of a question under sorts as a tuple."""
    many = len(names_of(question))
    if not is_sequence_of(shares, many, many):
        raise BadShares(0, "many")
    for index, share in enumerate(shares):
        if not is_whole(share, 1) or sorts.modulus % share != 0:
            raise BadShares(index, "share")
    if product_of(shares) > MOST_PRODUCT:
        raise BadShares(0, "product")
    return tuple(shares)


def hand_of(shares, coordinates):
    """Return the hand that has these coordinates."""
    hand = 0
    for share, coordinate in zip(shares, coordinates):
        hand = hand * share + coordinate
    return hand


def coordinates_of(shares, hand):
    """Return the coordinates of a hand."""
    left = hand
    found = []
    for share in reversed(list(shares)):
        found.append(left % share)
        left = left // share
    return tuple(found[::-1])


def _coordinate(sorts, share, sort):
    """Return the coordinate over a share that all values of a sort have, for the share divides the modulus."""
    named = len(sorts.named)
    value = sorts.named[sort] if sort < named else sort - named
    return value % share


def _asked_of(question, sorts, shares, index, kind):
    """Return the coordinates that a kind asks of the names of an atom, as a dict; None if it does not fit the atom."""
    table, terms = question[1][index]
    if kind[0] != table:
        return None
    share_of = dict(zip(names_of(question), shares))
    asked = {}
    for term, sort in zip(terms, kind[1]):
        if is_name(term):
            coordinate = _coordinate(sorts, share_of[term], sort)
            is_fit = asked.setdefault(term, coordinate) == coordinate
        else:
            is_fit = sorts.sort_of(term) == sort
        if not is_fit:
            return None
    return asked


def fits_atom(question, sorts, shares, index, kind):
    """Return whether a kind fits the atom of a question with this index."""
    return _asked_of(question, sorts, shares, index, kind) is not None


def lot_in_grid(question, sorts, shares, kind):
    """Return the lot of a kind in the grid of a question with these shares."""
    names = names_of(question)
    asked_of = [_asked_of(question, sorts, shares, index, kind) for index in range(len(question[1]))]
    fitting = [asked for asked in asked_of if asked is not None]
    lot = []
    for hand in range(product_of(shares) if fitting else 0):
        given = dict(zip(names, coordinates_of(shares, hand)))
        if any([all([given[name] == asked[name] for name in asked]) for asked in fitting]):
            lot.append(hand)
    return tuple(lot)


def grid_dealing(widths, question, sorts, shares):
    """Return the grid of a question: the dealing that brings the rows of each of its readings to one hand."""
    tables = check_widths(widths)
    asked = check_question(tables, question)
    known = check_shares(asked, sorts, shares)
    rule = [(kind, lot_in_grid(asked, sorts, known, kind)) for kind in all_kinds(tables, sorts)]
    return Dealing(tables, sorts, product_of(known), rule)


def hand_of_reading(question, sorts, shares, reading):
    """Return the hand of the grid that has the coordinates of the values of a reading."""
    known = check_shares(question, sorts, shares)
    return hand_of(known, [value % share for value, share in zip(reading, known)])

"""The unlike sets of rows that the readings of a question on a store have.

A question may have very many readings on a store, but few sets of rows. So the body is gone through atom by atom;
only the values of those names are kept that later atoms or pairs still ask for, each with the sets of rows so far.
A set of rows is a number here: bit k tells whether the row in place k of the store is in the set.
"""
from meetwhere.asking import fitted
from meetwhere.questions import unlike_names


def _names_in(atoms):
    """Return the names of atoms."""
    return unlike_names([term for _, terms in atoms for term in terms])


def _still_asked(question, many):
    """Return those names of the first atoms, so many, that later atoms bear or pairs with a later name."""
    body, pairs = question[1], question[2]
    late = _names_in(body[many:])
    tied = [term for pair in pairs for term in pair if pair[0] in late or pair[1] in late]
    return tuple([name for name in _names_in(body[:many]) if name in late or name in tied])


def _fits(question, at, store, given):
    """Return each place of the store whose row an atom can give, with the values of the names then."""
    table, terms = question[1][at]
    found = []
    for place, (other, values) in enumerate(store):
        fit = fitted(terms, values, given) if other == table else None
        if fit is not None and all([fit.get(left, left) != fit.get(right, right) for left, right in question[2]]):
            found.append((place, fit))
    return found


def _further(question, at, store, reached):
    """Return what is reached behind one more atom: sets of rows by the values of the names that count."""
    names = _still_asked(question, at)
    kept = _still_asked(question, at + 1)
    found = {}
    for values in reached:
        given = dict(zip(names, values))
        for place, fit in _fits(question, at, store, given):
            key = tuple([fit[name] for name in kept])
            sets = found.setdefault(key, {})
            for bits in reached[values]:
                sets[bits | (1 << place)] = True
    return found


def row_sets(question, store):
    """Return the stores of the rows of all readings of a question on a store, each once."""
    reached = {(): {0: True}}
    for at in range(len(question[1])):
        reached = _further(question, at, store, reached)
    found = list(reached.get((), {}))
    return tuple([tuple([row for place, row in enumerate(store) if bits >> place & 1]) for bits in found])

"""Values, rows and stores."""
from meetwhere.errors import BadRow, BadStore
from meetwhere.widths import check_widths, is_sequence, is_sequence_of, is_whole

GREATEST_VALUE = 10 ** 9
MOST_ROWS = 60


def is_value(thing):
    """Return whether a thing of any kind is a value."""
    return is_whole(thing, 0, GREATEST_VALUE)


def are_values(thing):
    """Return whether a thing of any kind is a tuple of values."""
    return isinstance(thing, tuple) and all([is_value(value) for value in thing])


def is_couple(thing):
    """Return whether a thing of any kind is a sequence of two things."""
    return is_sequence_of(thing, 2, 2)


def fault_of_place(widths, thing):
    """Return the word for a thing that is not a table's number with one thing for each column, else None."""
    if not is_couple(thing) or not is_whole(thing[0]) or not is_sequence(thing[1]):
        return "row"
    if not is_whole(thing[0], 0, len(widths) - 1):
        return "table"
    if len(thing[1]) != widths[thing[0]]:
        return "width"
    return None


def _fault_of_row(widths, row):
    """Return the word for a thing that is no row, else None."""
    what = fault_of_place(widths, row)
    if what is None and not all([is_value(value) for value in row[1]]):
        return "value"
    return what


def _as_row(row):
    """Return a row with tuples."""
    return (row[0], tuple(row[1]))


def check_row(widths, row):
    """Return a row with tuples."""
    what = _fault_of_row(check_widths(widths), row)
    if what is not None:
        raise BadRow(what)
    return _as_row(row)


def check_store(widths, rows):
    """Return rows in any order, some maybe twice, as a store."""
    tables = check_widths(widths)
    if not is_sequence_of(rows, 0, MOST_ROWS):
        raise BadStore(0, "many")
    for index, row in enumerate(rows):
        what = _fault_of_row(tables, row)
        if what is not None:
            raise BadStore(index, what)
    return store_of([_as_row(row) for row in rows])


def as_rows(widths, thing, most=None):
    """Return a thing of any kind as a store, None if it is no sequence of rows, at most so many if there is a bound."""
    if not is_sequence(thing) or (most is not None and len(thing) > most):
        return None
    if not all([_fault_of_row(widths, row) is None for row in thing]):
        return None
    return store_of([_as_row(row) for row in thing])


def store_of(rows):
    """Return rows with tuples, in any order, as a store."""
    return tuple(sorted(set(rows)))


def store_values(store):
    """Return the unlike values of a store, ascending."""
    return tuple(sorted({value for row in store for value in row[1]}))

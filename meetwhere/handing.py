"""Where one union may be asked if others may: under each dealing that is right for these."""
from meetwhere.asking import rows_of
from meetwhere.cases import all_cases, check_layings, check_many_layings
from meetwhere.errors import BadUnions
from meetwhere.leastness import is_least, least_cases
from meetwhere.questions import check_union, is_reading, names_of, union_values
from meetwhere.sorts import Sorts
from meetwhere.stores import check_store, is_couple, store_values
from meetwhere.widths import check_widths, is_same, is_sequence_of, is_whole

MOST_UNIONS = 4


class Covered:
    """Least readings of a group of unions that hold the rows of each least case of another union."""

    def __init__(self, rows):
        self.rows = rows

    def __eq__(self, other):
        return isinstance(other, Covered) and self.rows == other.rows


class Uncovered:
    """A least case of a union whose rows no least reading of a group of unions holds."""

    def __init__(self, index, case):
        self.index = index
        self.case = case

    def __eq__(self, other):
        return isinstance(other, Uncovered) and self.index == other.index and self.case == other.case


def _check_group(widths, unions):
    """Return a group of unions in tuples."""
    if not is_sequence_of(unions, 1, MOST_UNIONS):
        raise BadUnions(unions)
    return tuple([check_union(widths, union) for union in unions])


def _questions_of(unions):
    """Return the questions of all unions."""
    return [question for union in unions for question in union]


def _told_beside(union, values):
    """Return values and those of a union, each once, ascending."""
    return tuple(sorted(set(values + union_values(union))))


def _cases_by_rows(unions, values):
    """Return all cases of unions, where these values are told beside their own, by each row that they hold.

    A case is told as (number of the union, index of the question, case); under None stand all of them.
    """
    plain = Sorts((), 1)
    found = {None: []}
    for at, union in enumerate(unions):
        told = _told_beside(union, values)
        for index, question in enumerate(union):
            for case in all_cases(question, plain, told):
                for row in (None,) + rows_of(question, case):
                    found.setdefault(row, []).append((at, index, case))
    return found


def _first_covering(unions, rows, found, least):
    """Return the first least reading of unions that holds rows, or None.

    What is found out on the way may serve other rows, too: found keeps cases by the values of the rows, least
    whether cases are least.
    """
    values = store_values(rows)
    if values not in found:
        found[values] = _cases_by_rows(unions, values)
    for at, index, case in found[values].get(rows[0] if rows else None, []):
        held = rows_of(unions[at][index], case)
        if not all([row in held for row in rows]):
            continue
        if (at, index, case) not in least:
            least[(at, index, case)] = is_least(unions[at], index, case)
        if least[(at, index, case)]:
            return (at, index, case)
    return None


def _covering(unions, rows):
    """Return the first least reading of checked unions that holds rows, or None; refuse unions with many layings."""
    values = store_values(rows)
    for union in unions:
        check_layings(union, Sorts((), 1), _told_beside(union, values))
    return _first_covering(unions, rows, {}, {})


def find_covering(widths, unions, rows):
    """Return the first least reading of one of the unions that holds the rows: (number, index, reading), or None."""
    tables = check_widths(widths)
    group = _check_group(tables, unions)
    return _covering(group, check_store(tables, rows))


def _check_both(widths, unions, other):
    """Return a group of unions and another union in tuples."""
    tables = check_widths(widths)
    group = _check_group(tables, unions)
    return (group, check_union(tables, other))


def _told_for(unions, other):
    """Return the values of all unions and the other one, ascending."""
    return union_values(_questions_of(unions + (other,)))


def _check_handing(unions, other):
    """Refuse unions if whether they hand on to the other one would ask too many layings."""
    told = _told_for(unions, other)
    check_layings(other, Sorts((), 1), told)
    most = max([len(names_of(question)) for question in other], default=0)
    check_many_layings(_questions_of(unions), len(told) + most, 1)


def _handed(unions, other):
    """Return what hands_on returns, for unions that are not refused."""
    told = _told_for(unions, other)
    plain = Sorts((), 1)
    found = {}
    least = {}
    covered = []
    for index, case in least_cases(other, plain, told):
        reading = _first_covering(unions, rows_of(other[index], case), found, least)
        if reading is None:
            return Uncovered(index, case)
        covered.append(((index, case), reading))
    return Covered(tuple(covered))


def hands_on(widths, unions, other):
    """Return what shows whether the other union is right wherever all unions of a group are."""
    group, asked = _check_both(widths, unions, other)
    _check_handing(group, asked)
    return _handed(group, asked)


def _fault_of_covering(unions, thing, rows):
    """Return the word for a thing that is no least reading of one of the unions that holds the rows, else None."""
    if not isinstance(thing, tuple) or len(thing) != 3 or not is_whole(thing[0], 0, len(unions) - 1):
        return "reading"
    at, index, reading = thing
    union = unions[at]
    if not is_whole(index, 0, len(union) - 1) or not is_reading(union[index], reading):
        return "reading"
    if not is_least(union, index, reading):
        return "least"
    held = rows_of(union[index], reading)
    return None if all([row in held for row in rows]) else "rows"


def _are_cases(rows, cases):
    """Return whether a thing of any kind is a tuple of couples, tuples too, whose first things are the cases."""
    if not isinstance(rows, tuple) or not all([isinstance(row, tuple) and is_couple(row) for row in rows]):
        return False
    return is_same(tuple([row[0] for row in rows]), cases)


def covered_fault(widths, unions, other, covered):
    """Return None if readings show that a group of unions hands on to the other one, else what is wrong with them."""
    group, asked = _check_both(widths, unions, other)
    _check_handing(group, asked)
    told = _told_for(group, asked)
    plain = Sorts((), 1)
    cases = tuple(list(least_cases(asked, plain, told)))
    if not _are_cases(covered.rows, cases):
        return "cases"
    for (index, case), reading in covered.rows:
        what = _fault_of_covering(group, reading, rows_of(asked[index], case))
        if what is not None:
            return what
    return None


def uncovered_fault(widths, unions, other, uncovered):
    """Return None if a reading shows that a group of unions does not hand on, else what is wrong with it."""
    group, asked = _check_both(widths, unions, other)
    _check_handing(group, asked)
    index, case = uncovered.index, uncovered.case
    if not is_whole(index, 0, len(asked) - 1) or not is_reading(asked[index], case):
        return "reading"
    if not is_least(asked, index, case):
        return "least"
    return "covered" if _covering(group, rows_of(asked[index], case)) is not None else None


def _hands_on_to(unions, other):
    """Return whether unions that are not refused hand on, together, to the other one."""
    return isinstance(_handed(unions, other), Covered)


def handing_table(widths, unions):
    """Return a table: row by row, for each union of a group, whether it alone hands on to each of them."""
    group = _check_group(check_widths(widths), unions)
    for one in group:
        for other in group:
            _check_handing((one,), other)
    return tuple([tuple([_hands_on_to((one,), other) for other in group]) for one in group])


def greatest_unions(widths, unions):
    """Return the numbers of the unions that alone hand on to all unions of a group."""
    return tuple([at for at, row in enumerate(handing_table(widths, unions)) if all(row)])


def enough_unions(widths, unions):
    """Return the numbers of unions that are left where each one is struck to which the others left hand on."""
    group = _check_group(check_widths(widths), unions)
    left = list(range(len(group)))
    for number in reversed(range(len(group))):
        others = [other for other in left if other != number]
        asked = tuple([group[other] for other in others])
        if not others:
            continue
        _check_handing(asked, group[number])
        if _hands_on_to(asked, group[number]):
            left = others
    return tuple(left)

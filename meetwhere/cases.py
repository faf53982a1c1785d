"""Cases: finitely many readings of a question that stand for all."""
from meetwhere.errors import BadTold, TooMany
from meetwhere.questions import keeps_pairs, names_of, union_values
from meetwhere.sorts import is_ascending

MOST_LAYINGS = 1000


def check_told(union, told):
    """Return the told values for a union as a tuple."""
    if not is_ascending(told):
        raise BadTold(told)
    known = {value: True for value in told}
    if not all([value in known for value in union_values(union)]):
        raise BadTold(told)
    return tuple(told)


def layings(names, known, modulus):
    """Return the number of layings of a question with so many names, with so many fixed values."""
    # numbers[u] is the number for the names gone through, if u values that are not fixed were given before.
    numbers = [1 for _ in range(names + 1)]
    for left in reversed(range(names)):
        numbers = [(known + u) * numbers[u] + modulus * numbers[u + 1] for u in range(left + 1)]
    return numbers[0]


def _fixed(sorts, told):
    """Return the told and the named values, each once, ascending."""
    return tuple(sorted(set(told + sorts.named)))


def check_many_layings(union, known, modulus):
    """Refuse a union if one of its questions has too many layings for so many fixed values."""
    for question in union:
        if layings(len(names_of(question)), known, modulus) > MOST_LAYINGS:
            raise TooMany(MOST_LAYINGS)


def check_layings(union, sorts, told):
    """Refuse a union if one of its questions has too many layings for checked told values."""
    check_many_layings(union, len(_fixed(sorts, told)), sorts.modulus)


def _new_value(sorts, sort, fixed, given):
    """Return the least value of a remainder sort that is neither fixed nor given."""
    return sorts.value_of(sort, 0, fixed + given)


def _next_values(sorts, fixed, given):
    """Return the values that a name can get after the given ones, in the order of the layings."""
    earlier = list({value: True for value in given if value not in fixed})
    new = [_new_value(sorts, sort, fixed, given) for sort in range(len(sorts.named), sorts.many)]
    return list(fixed) + earlier + new


def _laid_out(sorts, fixed, many, given):
    """Yield the layings of so many names that begin with the given values."""
    if len(given) == many:
        yield given
        return
    for value in _next_values(sorts, fixed, given):
        longer = given + (value,)
        yield from _laid_out(sorts, fixed, many, longer)


def all_cases(question, sorts, told):
    """Yield the cases of a question."""
    known = check_told((question,), told)
    check_layings((question,), sorts, known)
    fixed = _fixed(sorts, known)
    many = len(names_of(question))
    for case in _laid_out(sorts, fixed, many, ()):
        if keeps_pairs(question, case):
            yield case


def count_cases(question, sorts, told):
    """Return the number of cases of a question."""
    return len(list(all_cases(question, sorts, told)))


def shape_of(question, reading, sorts, told):
    """Return the case that is alike to a reading."""
    fixed = _fixed(sorts, check_told((question,), told))
    put = {value: value for value in fixed}
    for value in reading:
        if value not in put:
            put[value] = _new_value(sorts, sorts.sort_of(value), fixed, tuple([put[old] for old in put]))
    return tuple([put[value] for value in reading])

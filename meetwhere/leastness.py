"""Least readings, and the kinds that a union needs."""
from meetwhere.asking import answer_of, is_answered, readings_for, rows_of
from meetwhere.cases import all_cases, check_layings, check_told
from meetwhere.errors import NoAnswer
from meetwhere.questions import union_values
from meetwhere.stores import are_values


def lesser_reading(union, index, reading):
    """Return the first lesser reading of a reading of a union with the index of its question, or None."""
    question = union[index]
    rows = rows_of(question, reading)
    answer = answer_of(question, reading)
    for at, other in enumerate(union):
        for found in readings_for(other, rows, answer):
            if len(rows_of(other, found)) < len(rows):
                return (at, found)
    return None


def is_least(union, index, reading):
    """Return whether no reading is lesser than a reading of a union."""
    return lesser_reading(union, index, reading) is None


def least_cases(union, sorts, told):
    """Yield the cases of a union that are least readings, each with the index of its question."""
    known = check_told(union, told)
    check_layings(union, sorts, known)
    for index, question in enumerate(union):
        for case in all_cases(question, sorts, known):
            if is_least(union, index, case):
                yield (index, case)


def is_answer_on(union, store, answer):
    """Return whether a thing of any kind is one of the answers of a union on a store."""
    return are_values(answer) and is_answered(union, store, answer)


def least_rows(union, store, answer):
    """Return the rows that are left where each row of a store is struck if the answer stays without it."""
    if not is_answer_on(union, store, answer):
        raise NoAnswer(answer)
    left = tuple(store)
    for row in store:
        fewer = tuple([other for other in left if other != row])
        if is_answered(union, fewer, answer):
            left = fewer
    return left


def kinds_of(question, reading, sorts):
    """Return the kinds of the rows of a reading, ascending."""
    return tuple(sorted({sorts.kind_of(row) for row in rows_of(question, reading)}))


def needed_kinds(union, sorts):
    """Return the kinds that a union needs under sorts, ascending."""
    told = union_values(union)
    kinds = {}
    for index, case in least_cases(union, sorts, told):
        for kind in kinds_of(union[index], case, sorts):
            kinds[kind] = True
    return tuple(sorted(list(kinds)))

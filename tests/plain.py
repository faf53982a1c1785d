"""What the tests share: faults as tuples, things made up by number, and slow plain ways to the same results."""
import copy
import itertools
import random

from meetwhere.dealings import Dealing
from meetwhere.sorts import Sorts

NAMES = "abcdefgh"
GREATEST = 10 ** 9

# Things of many kinds that are no whole numbers, no texts and no sequences, or only look like them.
ODD_THINGS = (None, True, False, 1.0, "1", "", b"a", {}, {1: 2}, {1}, frozenset(), object(), range(2), iter(()))
NO_SEQUENCES = tuple([thing for thing in ODD_THINGS if not isinstance(thing, (list, tuple))]) + (0, 5, "abc")
NO_VALUES = (None, True, False, 0.0, 1.0, "1", "a", -1, GREATEST + 1, (), [], (1,), {}, 1j)


def fault(error, function, *args):
    """Return the attributes of the very error that a call raises, in their order."""
    try:
        result = function(*args)
        if hasattr(result, "__next__"):
            list(result)
    except Exception as caught:
        if caught.__class__ is error:
            return tuple(vars(caught).values())
        raise
    raise AssertionError(f"{function.__name__}{args} raised nothing")


def is_deep_tuple(thing):
    """Return whether all sequences in a thing are tuples."""
    return not isinstance(thing, list) and (not isinstance(thing, tuple) or all(is_deep_tuple(x) for x in thing))


def in_lists(thing):
    """Return a thing with lists in the place of tuples."""
    return [in_lists(item) for item in thing] if isinstance(thing, tuple) else thing


def wreck(thing):
    """Empty all lists in a thing."""
    if isinstance(thing, list):
        for item in thing:
            wreck(item)
        thing.clear()


def unchanged(test, function, *args):
    """Check that a call changes and keeps nothing of lists, and return its result."""
    given = [in_lists(arg) for arg in args]
    before = copy.deepcopy(given)
    result = function(*given)
    test.assertEqual(given, before)
    kept = copy.deepcopy(result)
    wreck(given)
    test.assertEqual(result, kept)
    test.assertTrue(is_deep_tuple(result))
    return result


def in_tuples(thing):
    """Return a thing with tuples in the place of lists."""
    return tuple(in_tuples(item) for item in thing) if isinstance(thing, (list, tuple)) else thing


def filled(terms, given):
    return tuple(given.get(term, term) for term in terms)


def names_of(question):
    found = []
    for _, terms in question[1]:
        for term in terms:
            if isinstance(term, str) and term not in found:
                found.append(term)
    return found


def keeps(question, given):
    return all(given.get(left, left) != given.get(right, right) for left, right in question[2])


def rows_of(question, given):
    return tuple(sorted({(table, filled(terms, given)) for table, terms in question[1]}))


def readings_over(question, values):
    """Return all readings with these values, as dicts, ascending if the values are."""
    names = names_of(question)
    found = [dict(zip(names, reading)) for reading in itertools.product(values, repeat=len(names))]
    return [given for given in found if keeps(question, given)]


def readings(question, store):
    """Return all readings on a store."""
    values = sorted({value for _, row in store for value in row})
    found = [given for given in readings_over(question, values) if set(rows_of(question, given)) <= set(store)]
    return [tuple(given.values()) for given in found]


def counted(question, store):
    """Return the answers of a question on a store with their numbers."""
    numbers = {}
    for reading in readings(question, store):
        answer = filled(question[0], dict(zip(names_of(question), reading)))
        numbers[answer] = numbers.get(answer, 0) + 1
    return tuple(sorted(numbers.items()))


def answers(union, store):
    """Return the answers of a union on a store."""
    return tuple(sorted({answer for question in union for answer, _ in counted(question, store)}))


def some_store(number, widths, most_value, most_rows):
    """Return a store made up by number."""
    made = random.Random(number)
    rows = set()
    for _ in range(made.randint(0, most_rows)):
        table = made.randrange(len(widths))
        rows.add((table, tuple(made.randint(0, most_value) for _ in range(widths[table]))))
    return tuple(sorted(rows))


def some_question(number, widths, most_value, most_atoms=3, most_names=3, head=None):
    """Return a question made up by number."""
    made = random.Random(number)

    def term(letters):
        return made.choice(letters) if letters and made.random() < 0.85 else made.randint(0, most_value)

    letters = NAMES[:most_names]
    body = []
    for _ in range(made.randint(1, most_atoms)):
        table = made.randrange(len(widths))
        body.append((table, tuple(term(letters) for _ in range(widths[table]))))
    names = names_of(((), body, ()))
    long = made.randint(0, 2) if head is None else head
    pairs = tuple((term(names), term(names)) for _ in range(made.choice((0, 0, 0, 1, 2))))
    return (tuple(term(names) for _ in range(long)), tuple(body), pairs)


def some_union(number, widths, most_value, most_atoms=3, most_names=3):
    """Return a union made up by number."""
    made = random.Random(number)
    head = made.randint(0, 2)
    many = made.choice((0, 1, 1, 2, 2, 3))
    return tuple(some_question((number + 1) * 1000 + k, widths, most_value, most_atoms, most_names, head)
                 for k in range(many))


def rows_with(widths, things):
    """Return all rows with these things in their columns, ascending if the things are."""
    return [(table, row) for table, width in enumerate(widths) for row in itertools.product(things, repeat=width)]


def all_kinds(widths, sorts):
    """Return all kinds, ascending."""
    return tuple(rows_with(widths, range(sorts.many)))


def some_sorts(number, most_value, most_named=2, most_modulus=3):
    """Return sorts made up by number."""
    made = random.Random(number)
    named = made.sample(range(most_value + 1), made.randint(0, min(most_named, most_value + 1)))
    return Sorts(sorted(named), made.randint(1, most_modulus))


def some_dealing(number, widths, sorts, hands, likely=0.5):
    """Return a dealing made up by number; each hand is in each lot with the same likelihood."""
    made = random.Random(number)
    return Dealing(widths, sorts, hands, [(kind, [hand for hand in range(hands) if made.random() < likely])
                                          for kind in all_kinds(widths, sorts)])


def kind_of(sorts, row):
    """Return the kind of a row."""
    return (row[0], tuple(sorts.sort_of(value) for value in row[1]))


def at_hand(dealing, rows, hand):
    """Return those of the rows that a hand holds."""
    return tuple(row for row in rows if hand in dict(dealing.rule).get(kind_of(dealing.sorts, row), ()))


def lot_of_rows(dealing, rows):
    """Return the hands that hold all of the rows."""
    return tuple(hand for hand in range(dealing.hands) if at_hand(dealing, rows, hand) == tuple(rows))


def together(union, dealing, store):
    """Return what the hands answer together."""
    return tuple(sorted({answer for hand in range(dealing.hands)
                         for answer in answers(union, at_hand(dealing, store, hand))}))


def all_stores(widths, values, most_rows):
    """Yield all stores with these values and at most so many rows."""
    for many in range(most_rows + 1):
        yield from itertools.combinations(rows_with(widths, values), many)


def some_rounds(number, widths, many, hands=(1, 2, 3), most_value=2):
    """Return rounds of a plan made up by number: couples of a dealing and a union with one question at least."""
    made = random.Random(number)
    sorts = some_sorts(number, most_value, 1, 2)
    tables, rounds = tuple(widths), []
    for index in range(many):
        last = index == many - 1
        head = made.randint(0 if last else 1, 2)
        union = tuple(some_question(made.random(), tables, most_value, 2, 3, head)
                      for _ in range(made.choice((1, 1, 2))))
        dealing = some_dealing(made.random(), tables, sorts, made.choice(hands), made.choice((0.7, 0.9, 1)))
        rounds.append((dealing, union))
        tables += (head,)
    return tuple(rounds)

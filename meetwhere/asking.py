"""The rows and answers of readings, and the readings, answers and counts on a store.

A search for readings holds a *state*: pools and pairs. A pool is what is left of an atom: its names that have
no value yet, and the values for them that the rows of the store give. Equal states have equally many ends,
whatever led to them, so that much that would be gone through often is gone through once.
"""
from meetwhere.questions import filled, is_name, names_of, unlike_names
from meetwhere.stores import store_of


def rows_of(question, reading):
    """Return the rows of a reading as a store."""
    names = names_of(question)
    return store_of([(table, filled(terms, names, reading)) for table, terms in question[1]])


def answer_of(question, reading):
    """Return the answer of a reading."""
    return filled(question[0], names_of(question), reading)


def fitted(terms, values, wanted):
    """Return what the names get where the terms become the values, beside what is wanted; None if they cannot."""
    given = {name: wanted[name] for name in wanted}
    for term, value in zip(terms, values):
        if given.setdefault(term, value if is_name(term) else term) != value:
            return None
    return given


def _pool_of(atom, store, wanted):
    """Return the pool of an atom: its names, and what the rows of the store give them."""
    table, terms = atom
    names = unlike_names(terms)
    found = [fitted(terms, values, wanted) for other, values in store if other == table]
    return (names, tuple([tuple([given[name] for name in names]) for given in found if given is not None]))


def _narrowed(pool, name, value):
    """Return what is left of a pool when a name gets a value."""
    names, rows = pool
    if name not in names:
        return pool
    at = names.index(name)
    kept = tuple([row[:at] + row[at + 1:] for row in rows if row[at] == value])
    return (names[:at] + names[at + 1:], kept)


def _state_of(pools, pairs):
    """Return the state of pools and pairs without what is settled, None if one of them cannot be kept."""
    if not all([rows for names, rows in pools]) or not all([left != right for left, right in pairs]):
        return None
    unsettled = tuple([pool for pool in pools if pool[0]])
    return (unsettled, tuple([pair for pair in pairs if is_name(pair[0]) or is_name(pair[1])]))


def _started(question, store, wanted):
    """Return the state before all names, for readings with the wanted values; None if there are none."""
    return _state_of([_pool_of(atom, store, wanted) for atom in question[1]], question[2])


def _after(state, name, value):
    """Return the state when a name gets a value, None if this leads nowhere."""
    pools, pairs = state
    return _state_of([_narrowed(pool, name, value) for pool in pools], [filled(pair, name, (value,)) for pair in pairs])


def _choices(state, name):
    """Return the values that each pool with this name has for it, ascending."""
    found = None
    for names, rows in state[0]:
        if name in names:
            at = names.index(name)
            here = {row[at]: True for row in rows}
            found = here if found is None else {value: True for value in found if value in here}
    return sorted(list(found))


def _endings(state, names, found):
    """Yield each way to go on from the values found for the first of the names, with the state at its end."""
    if len(found) == len(names):
        yield (found, state)
        return
    name = names[len(found)]
    for value in _choices(state, name):
        later = _after(state, name, value)
        if later is not None:
            longer = found + (value,)
            yield from _endings(later, names, longer)


def _can_end(state, names, dead):
    """Return whether the names can get values; dead holds the states from which they are known not to."""
    if not names:
        return True
    if state in dead:
        return False
    for value in _choices(state, names[0]):
        later = _after(state, names[0], value)
        if later is not None and _can_end(later, names[1:], dead):
            return True
    dead[state] = True
    return False


def _count_ends(state, names, counts):
    """Return in how many ways the names can get values; counts holds what is known of states."""
    if not names:
        return 1
    if state not in counts:
        after = [_after(state, names[0], value) for value in _choices(state, names[0])]
        counts[state] = sum([_count_ends(later, names[1:], counts) for later in after if later is not None])
    return counts[state]


def readings(question, store):
    """Yield all readings of a question on a store, ascending."""
    state = _started(question, store, {})
    names = names_of(question)
    if state is not None:
        for reading, _ in _endings(state, names, ()):
            yield reading


def count_readings(question, store):
    """Return the number of readings of a question on a store."""
    state = _started(question, store, {})
    return 0 if state is None else _count_ends(state, names_of(question), {})


def _started_for(question, store, answer):
    """Return the state before all names, for readings with an answer; None if there are none."""
    head = question[0]
    wanted = fitted(head, answer, {}) if len(head) == len(answer) else None
    return None if wanted is None else _started(question, store, wanted)


def readings_for(question, store, answer):
    """Yield the readings of a question on a store that have an answer, ascending."""
    state = _started_for(question, store, answer)
    names = names_of(question)
    if state is not None:
        for reading, _ in _endings(state, names, ()):
            yield reading


def _first_step(state, names, dead):
    """Return the first value of the first name with which the names can get values, and the state then."""
    for value in _choices(state, names[0]):
        later = _after(state, names[0], value)
        if later is not None and _can_end(later, names[1:], dead):
            return (value, later)
    return (None, None)


def first_reading_for(question, store, answer):
    """Return the first reading of a question on a store that has an answer, or None."""
    state = _started_for(question, store, answer)
    names = names_of(question)
    dead = {}
    if state is None or not _can_end(state, names, dead):
        return None
    found = ()
    for at in range(len(names)):
        value, state = _first_step(state, names[at:], dead)
        found = found + (value,)
    return found


def is_answered(union, store, answer):
    """Return whether a tuple of values is one of the answers of a union on a store."""
    for question in union:
        state = _started_for(question, store, answer)
        if state is not None and _can_end(state, names_of(question), {}):
            return True
    return False


def _headed(question, store):
    """Yield each answer that the names of the head alone allow, with the state that is left."""
    state = _started(question, store, {})
    names = unlike_names(question[0])
    if state is not None:
        for found, later in _endings(state, names, ()):
            answer = filled(question[0], names, found)
            yield (answer, later)


def _beside_head(question):
    """Return the names of a question that its head does not bear."""
    return tuple([name for name in names_of(question) if name not in question[0]])


def answers(union, store):
    """Return the answers of a union on a store, ascending."""
    found = {}
    for question in union:
        rest = _beside_head(question)
        dead = {}
        for answer, later in _headed(question, store):
            if _can_end(later, rest, dead):
                found[answer] = True
    return tuple(sorted(list(found)))


def counted(question, store):
    """Return the answers of a question on a store, ascending, each with the number of its readings."""
    rest = _beside_head(question)
    counts = {}
    found = [(answer, _count_ends(later, rest, counts)) for answer, later in _headed(question, store)]
    return tuple(sorted([couple for couple in found if couple[1] > 0]))


def union_readings(union, store):
    """Yield the readings of all questions of a union on a store, each with its question's index, ascending."""
    for index, question in enumerate(union):
        for reading in readings(question, store):
            yield (index, reading)

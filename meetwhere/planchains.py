"""Chains of links, which show why a plan gives an answer."""
from meetwhere.asking import answer_of, first_reading_for, rows_of
from meetwhere.dealt import rows_at_hands
from meetwhere.errors import NoAnswer
from meetwhere.plans import rows_in_rounds, run_plan
from meetwhere.questions import as_reading
from meetwhere.stores import are_values, check_store, store_of
from meetwhere.widths import is_same, is_sequence, is_sequence_of, is_whole


def _asked_in(plan, link):
    """Return the question of a link."""
    return plan.rounds[link[0]][1][link[2]]


def _link_rows(plan, link):
    """Return the rows of a link."""
    return rows_of(_asked_in(plan, link), link[3])


def _fruit(plan, link):
    """Return the fruit of a link."""
    return answer_of(_asked_in(plan, link), link[3])


def _first_link(plan, index, parts, answer):
    """Return the first link of a round that has an answer as its fruit; the parts are what lies at the hands."""
    union = plan.rounds[index][1]
    for hand, part in enumerate(parts):
        for number, question in enumerate(union):
            reading = first_reading_for(question, part, answer)
            if reading is not None:
                return (index, hand, number, reading)
    return None


def _put_links(plan, parts, index, answer, chain):
    """Put links that lead to an answer of a round into a chain: links, in their order, by their rounds and fruits."""
    if (index, answer) in chain:
        return
    link = _first_link(plan, index, parts[index], answer)
    for table, values in _link_rows(plan, link):
        earlier = table - len(plan.widths)
        if earlier >= 0:
            _put_links(plan, parts, earlier, values, chain)
    chain[(index, answer)] = link


def chain_to(plan, store, answer):
    """Return a chain for a store and an answer of a plan."""
    given = check_store(plan.widths, store)
    run = run_plan(plan, given)
    if not are_values(answer) or answer not in run.answered:
        raise NoAnswer(answer)
    rows = rows_in_rounds(given, run.made)
    parts = [rows_at_hands(dealing, dealt) for dealt, (dealing, _) in zip(rows, plan.rounds)]
    chain = {}
    _put_links(plan, parts, len(plan) - 1, answer, chain)
    return tuple(list(chain.values()))


def _as_link(plan, thing):
    """Return a thing of any kind as a link of a plan in tuples, None if it is none."""
    if not is_sequence_of(thing, 4, 4):
        return None
    index, hand, number, reading = thing
    if not is_whole(index, 0, len(plan) - 1):
        return None
    dealing, union = plan.rounds[index]
    if not is_whole(hand, 0, dealing.hands - 1) or not is_whole(number, 0, len(union) - 1):
        return None
    known = as_reading(union[number], reading)
    return None if known is None else (index, hand, number, known)


def _link_fault(plan, link, rows):
    """Return the word for what is wrong with a link where these rows, a dict, can be had, else None."""
    dealing = plan.rounds[link[0]][0]
    needed = _link_rows(plan, link)
    if not all([link[1] in dealing.lot_for(row) for row in needed]):
        return "hand"
    return None if all([row in rows for row in needed]) else "rows"


def chain_fault(plan, store, answer, chain):
    """Return None if a chain shows that a plan gives an answer on a store, else what is wrong with it."""
    rows = {row: True for row in check_store(plan.widths, store)}
    if not is_sequence(chain):
        return "link"
    last = None
    for thing in chain:
        last = _as_link(plan, thing)
        what = "link" if last is None else _link_fault(plan, last, rows)
        if what is not None:
            return what
        rows[(len(plan.widths) + last[0], _fruit(plan, last))] = True
    if last is None or last[0] < len(plan) - 1 or not is_same(answer, _fruit(plan, last)):
        return "answer"
    return None


def chain_rows(plan, chain):
    """Return the store of all rows of given tables of the links of a chain."""
    rows = [row for link in chain for row in _link_rows(plan, link)]
    return store_of([row for row in rows if row[0] < len(plan.widths)])

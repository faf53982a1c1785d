"""Whether the counts of the hands, added, are right on all stores."""
from meetwhere.asking import answer_of, rows_of
from meetwhere.cases import all_cases
from meetwhere.questions import check_question, question_values
from meetwhere.rightness import claim_fault, lot_of_reading, lot_of_rows
from meetwhere.rowsets import row_sets
from meetwhere.widths import is_same


class Miscounted:
    """A reading that does not meet at exactly one hand, so that its answer is counted wrong on its rows."""

    def __init__(self, reading, store, answer, hands):
        self.reading = reading
        self.store = store
        self.answer = answer
        self.hands = hands

    def __eq__(self, other):
        return (isinstance(other, Miscounted) and self.reading == other.reading and self.store == other.store
                and self.answer == other.answer and self.hands == other.hands)


def _case_lots(question, dealing):
    """Return the cases of a checked question, each with the lot of the hands where it meets."""
    told = question_values(question)
    return [(case, lot_of_reading(dealing, question, case)) for case in all_cases(question, dealing.sorts, told)]


def counts_right(question, dealing):
    """Return None if a question is counted right, else a case with the fewest rows that shows that it is not."""
    asked = check_question(dealing.widths, question)
    lots = _case_lots(asked, dealing)
    wrong = [(len(rows_of(asked, case)), place) for place, (case, lot) in enumerate(lots) if len(lot) != 1]
    if not wrong:
        return None
    case, lot = lots[min(wrong)[1]]
    return Miscounted(case, rows_of(asked, case), answer_of(asked, case), lot)


def miscounted_fault(question, dealing, miscounted):
    """Return None if a reading shows that a question is counted wrong, else what is wrong with it."""
    asked = check_question(dealing.widths, question)
    what = claim_fault(asked, miscounted)
    if what is not None:
        return what
    lot = lot_of_reading(dealing, asked, miscounted.reading)
    if not is_same(miscounted.hands, lot):
        return "hands"
    if len(lot) == 1:
        return "once"
    parts = [rows for rows in row_sets(asked, miscounted.store) if rows != miscounted.store]
    return "part" if [rows for rows in parts if len(lot_of_rows(dealing, rows)) != 1] else None


def count_span(question, dealing):
    """Return the least and the greatest number of hands at which a case meets, None if there is no case."""
    asked = check_question(dealing.widths, question)
    numbers = [len(lot) for _, lot in _case_lots(asked, dealing)]
    return (min(numbers), max(numbers)) if numbers else None

"""The interface: each name stands in its file, with its arguments."""
import importlib
import inspect
import unittest

FUNCTIONS = {
    "widths": "is_whole(thing, low=None, high=None); is_sequence(thing); check_widths(widths)",
    "stores": "is_value(thing); check_row(widths, row); check_store(widths, rows); store_values(store)",
    "questions": "is_name(thing); is_term(thing); check_question(widths, question); check_union(widths, union); "
                 "names_of(question); question_values(question); union_values(union); head_length(union); "
                 "keeps_pairs(question, reading); check_reading(question, reading); filled(terms, names, reading)",
    "asking": "rows_of(question, reading); answer_of(question, reading); readings(question, store); "
              "count_readings(question, store); answers(union, store); counted(question, store); "
              "union_readings(union, store)",
    "along": "renamed_store(store, moves); renamed_union(union, moves); with_names(question, letters)",
    "storetext": "row_text(row); store_text(store); read_store(widths, text)",
    "questiontext": "question_text(question); union_text(union); read_union(widths, text)",
    "cases": "check_told(union, told); layings(names, known, modulus); all_cases(question, sorts, told); "
             "count_cases(question, sorts, told); shape_of(question, reading, sorts, told)",
    "leastness": "lesser_reading(union, index, reading); is_least(union, index, reading); "
                 "least_cases(union, sorts, told); least_rows(union, store, answer); needed_kinds(union, sorts)",
    "within": "is_within(widths, union, other); outside_fault(widths, union, other, outside); "
              "are_alike(widths, union, other); least_form(widths, question)",
    "dealings": "all_kinds(widths, sorts); count_kinds(widths, sorts); check_kind(dealing, kind); "
                "check_lost(dealing, lost); dealing_by(widths, sorts, hands, choose); "
                "everywhere(widths, sorts, hands); renumbered(dealing, order)",
    "refining": "finer(dealing, factor); with_named(dealing, value); coarsest(dealing); rows_differ(one, other)",
    "dealt": "dealt_stores(dealing, store); undealt(dealing, store); answers_by_hand(union, dealing, store); "
             "answers_together(union, dealing, store); answers_after(union, dealing, store, lost); "
             "counted_together(question, dealing, store)",
    "dealingtext": "dealing_text(dealing); read_dealing(widths, text)",
    "rightness": "meeting_hands(dealing, rows); right_for_all(union, dealing); is_right(union, dealing); "
                 "meets_fault(union, dealing, meets); parted_fault(union, dealing, parted); "
                 "all_right(unions, dealing); rows_apart(union, dealing)",
    "counts": "counts_right(question, dealing); miscounted_fault(question, dealing, miscounted); "
              "count_span(question, dealing)",
    "losses": "most_lost(union, dealing); losing_lots(union, dealing)",
    "demands": "check_demands(dealing, demands); demands_of(union, dealing); unmet_demand(dealing, demands); "
               "clusters(dealing, demands); carries(dealing, demands, others)",
    "needless": "copies_of(dealing); struck(dealing, kind, hand); copied(dealing, kind, hand); widest_hand(dealing); "
                "needless_copies(dealing, demands); unneeded_copies(dealing, demands); "
                "fewest_struck(dealing, demands)",
    "leastdealings": "least_under(dealing, demands); least_dealings(dealing, demands); "
                     "copy_standings(dealing, demands); fewest_within(dealing, demands, *, room=None); "
                     "least_room(dealing, demands); room_table(dealing, demands)",
    "plans": "with_round(plan, index, dealing); run_plan(plan, store); plain_run(plan, store); "
             "sent_copies(plan, store)",
    "planchains": "chain_to(plan, store, answer); chain_fault(plan, store, answer, chain); chain_rows(plan, chain)",
    "unfolding": "unfolded(plan); one_round(plan)",
    "planchecks": "plan_values(plan); plan_right(plan); round_right(plan, index); plan_within(plan, other); "
                  "plans_alike(plan, other)",
    "handing": "find_covering(widths, unions, rows); hands_on(widths, unions, other); "
               "covered_fault(widths, unions, other, covered); uncovered_fault(widths, unions, other, uncovered); "
               "handing_table(widths, unions); greatest_unions(widths, unions); enough_unions(widths, unions)",
    "spoiling": "make_spoiling(widths, rows)",
    "grids": "check_shares(question, sorts, shares); hand_of(shares, coordinates); coordinates_of(shares, hand); "
             "fits_atom(question, sorts, shares, index, kind); grid_dealing(widths, question, sorts, shares); "
             "hand_of_reading(question, sorts, shares, reading)",
    "loads": "count_copies(dealing, store); greatest_load(dealing, store); most_copies(dealing); "
             "loads_of(dealing, store); all_shares(question, sorts, most); "
             "best_shares(widths, question, sorts, most, store)",
    "moving": "after_steps(dealing, steps); steps_between(one, other); "
              "order_fault(union, dealing, steps, room=None); safe_order(union, one, other, room=None, spare=())",
    "seen": "poorest(seen); richest(seen); surely_right(union, seen); surely_wrong(union, seen); "
            "right_ways(union, seen); telling_copies(union, seen); fewest_looks(union, seen); next_look(union, seen)",
    "showing": "least_showing(union, dealing); showing_fault(union, dealing, showing)",
    "edits": "edited_dealing(dealing, edits); check_edits(dealing, pool)",
    "mends": "check_goal(widths, goal); goal_holds(dealing, goal); find_mends(dealing, pool, goal); "
             "find_spoilers(dealing, pool, goal); steady_picks(dealing, pool, goal)",
}
CLASSES = {
    "sorts": {"Sorts": "__init__(self, named, modulus); sort_of(self, value); kind_of(self, row); "
                       "value_of(self, sort, number, avoided=()); __eq__(self, other)"},
    "within": {"Outside": "__init__(self, index, reading); __eq__(self, other)"},
    "dealings": {"Dealing": "__init__(self, widths, sorts, hands, rule); __call__(self, row); __iter__(self); "
                            "__contains__(self, thing); __or__(self, other); __and__(self, other); "
                            "__eq__(self, other); lot_of(self, kind); held(self, hand); with_lot(self, kind, lot); "
                            "without(self, lost); includes(self, other)"},
    "refining": {"UnlikeRow": "__init__(self, row); __eq__(self, other)"},
    "rightness": {"Meets": "__init__(self, rows); __eq__(self, other)",
                  "Parted": "__init__(self, index, reading, store, answer); __eq__(self, other)"},
    "counts": {"Miscounted": "__init__(self, reading, store, answer, hands); __eq__(self, other)"},
    "demands": {"Carry": "__init__(self, dealing, demand); __eq__(self, other)"},
    "needless": {"Breaking": "__init__(self, copies, demand); __eq__(self, other)"},
    "leastdealings": {"Standings": "__init__(self, fixed, free, idle); __eq__(self, other)",
                      "Fewest": "__init__(self, number, dealing); __eq__(self, other)",
                      "NoRoom": "__init__(self, needed); __eq__(self, other)"},
    "plans": {"Plan": "__init__(self, widths, rounds); __len__(self); __iter__(self); __eq__(self, other)",
              "PlanRun": "__init__(self, made, answered); __eq__(self, other)"},
    "planchecks": {"PlanParted": "__init__(self, index, case, store, answer); __eq__(self, other)",
                   "PlanOutside": "__init__(self, index, case, store, answer); __eq__(self, other)"},
    "handing": {"Covered": "__init__(self, rows); __eq__(self, other)",
                "Uncovered": "__init__(self, index, case); __eq__(self, other)"},
    "moving": {"Broken": "__init__(self, moment, what); __eq__(self, other)",
               "NoOrder": "__init__(self, reached); __eq__(self, other)"},
    "seen": {"Seen": "__init__(self, widths, sorts, hands, sights=()); is_held(self, kind, hand); fits(self, dealing); "
                     "with_sight(self, store, hand, rows); __eq__(self, other)"},
    "showing": {"Showing": "__init__(self, right, copies); __eq__(self, other)"},
    "house": {"House": "__init__(self, dealing); put(self, row); take(self, row); put_copy(self, kind, hand); "
                       "strike_copy(self, kind, hand); at_hand(self, hand); ask(self, union); "
                       "lost_answers(self, union); holds(self, goal); take_back(self, many=1); trying(self, action)"},
}
GENERATORS = ("asking.readings", "asking.union_readings", "cases.all_cases", "leastness.least_cases",
              "leastdealings.least_dealings", "mends.find_mends", "mends.find_spoilers", "mends.steady_picks")


def told_of(function):
    """Return how the interface would tell a function."""
    return f"{function.__name__}{inspect.signature(function)}"


class Interface(unittest.TestCase):
    def test_functions(self):
        for module, told in FUNCTIONS.items():
            found = importlib.import_module(f"meetwhere.{module}")
            for line in told.split("; "):
                function = getattr(found, line.split("(")[0])
                self.assertEqual(told_of(function), line)
                self.assertEqual(function.__module__, found.__name__, line)

    def test_classes(self):
        for module, classes in CLASSES.items():
            found = importlib.import_module(f"meetwhere.{module}")
            for name, told in classes.items():
                made = vars(found)[name]
                self.assertEqual(made.__module__, found.__name__, name)
                for line in told.split("; "):
                    method = vars(made)[line.split("(")[0]]
                    self.assertEqual(told_of(method), line)

    def test_properties(self):
        self.assertIsInstance(vars(importlib.import_module("meetwhere.sorts").Sorts)["many"], property)
        self.assertIsInstance(vars(importlib.import_module("meetwhere.plans").Plan)["all_widths"], property)

    def test_generators(self):
        for told in GENERATORS:
            module, name = told.split(".")
            self.assertTrue(inspect.isgeneratorfunction(getattr(importlib.import_module(f"meetwhere.{module}"), name)))

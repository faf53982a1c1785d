"""[2.3] to [2.6]: told values, layings, cases, shapes."""
import itertools
import unittest

from meetwhere.cases import all_cases, check_told, count_cases, layings, shape_of
from meetwhere.errors import BadTold, TooMany
from meetwhere.questions import union_values
from meetwhere.sorts import Sorts
from tests import plain
from tests.plain import GREATEST, NO_SEQUENCES, NO_VALUES, fault, unchanged

WIDTHS = (1, 2)
PAIR = (("a",), ((0, ("a",)), (0, ("b",))), ())


def asked(names, values=(), pairs=()):
    """Return a question with so many names and these values."""
    return ((), tuple((0, (term,)) for term in tuple(plain.NAMES[:names]) + values) or ((0, (0,)),), pairs)


def are_alike(one, two, sorts, fixed):
    """Return whether two readings are alike, as [2.4] tells it."""
    places = range(len(one))
    return (all(one[k] == two[k] for k in places if one[k] in fixed or two[k] in fixed)
            and all(sorts.sort_of(one[k]) == sorts.sort_of(two[k]) for k in places)
            and all((one[j] == one[k]) == (two[j] == two[k]) for j in places for k in places))


def choices_of(case, sorts, fixed):
    """Return what [2.4] chooses for each name of a case, None where it is none of the choices."""
    found = []
    for at, value in enumerate(case):
        earlier = [old for old in dict.fromkeys(case[:at]) if old not in fixed]
        remainder = sorts.sort_of(value) - len(sorts.named)
        if value in fixed:
            found.append((0, fixed.index(value)))
        elif value in earlier:
            found.append((1, earlier.index(value)))
        elif value == sorts.value_of(sorts.sort_of(value), 0, fixed + case[:at]):
            found.append((2, remainder))
        else:
            return None
    return found


class Told(unittest.TestCase):
    def test_right_ones_become_tuples(self):
        union = (asked(1, (3,)), asked(1, (5,)))
        for told in ((3, 5), (0, 3, 4, 5, GREATEST), tuple(range(2000))):
            self.assertEqual(check_told(union, told), told)
            self.assertEqual(check_told(union, list(told)), told)
        self.assertEqual(check_told((), ()), ())
        self.assertEqual(check_told((), [4]), (4,))
        self.assertEqual(unchanged(self, check_told, (), (1, 2)), (1, 2))

    def test_wrong_ones(self):
        union = (asked(1, (3,)),)
        for told in NO_SEQUENCES + ((), (4,), (3, 3), (4, 3), (2, 3, 3), (3, True), (3, None)):
            self.assertEqual(fault(BadTold, check_told, union, told), (told,))
        for value in NO_VALUES:
            if not isinstance(value, list):
                self.assertEqual(fault(BadTold, check_told, union, (3, value)), ((3, value),))
        self.assertEqual(fault(BadTold, check_told, union, [3, 1]), ((3, 1),))
        self.assertEqual(fault(BadTold, check_told, (((7,), ((0, (1,)),), ((2, 4),)),), (1, 2, 4)), ((1, 2, 4),))

    def test_all_with_told_values_check_it(self):
        sorts = Sorts((1,), 1)
        question = asked(2, (3,))
        for told in ((), (1,), (3, 2), [4], None, (True, 3)):
            right = (tuple(told) if isinstance(told, list) else told,)
            self.assertEqual(fault(BadTold, all_cases, question, sorts, told), right)
            self.assertEqual(fault(BadTold, count_cases, question, sorts, told), right)
            self.assertEqual(fault(BadTold, shape_of, question, (1, 2), sorts, told), right)


class Layings(unittest.TestCase):
    def test_against_the_formula(self):
        def formula(names, used, known, modulus):
            if names == 0:
                return 1
            return ((known + used) * formula(names - 1, used, known, modulus)
                    + modulus * formula(names - 1, used + 1, known, modulus))

        for names in range(9):
            for known in (0, 1, 2, 9, 994):
                for modulus in (1, 2, 6):
                    self.assertEqual(layings(names, known, modulus), formula(names, 0, known, modulus))
        self.assertEqual([layings(names, 0, 1) for names in range(9)], [1, 1, 2, 5, 15, 52, 203, 877, 4140])
        self.assertEqual(layings(3, 4, 0), 64)
        self.assertEqual(layings(2, 0, 0), 0)

    def test_it_is_the_number_of_cases_without_pairs(self):
        all_named, all_told = ((), (2,), (1, 5)), ((), (1,), (0, 2))
        for names, named, told, modulus in itertools.product(range(4), all_named, all_told, (1, 2, 6)):
            known = len(set(named) | set(told))
            question = asked(names) if names else ((), ((0, (1,)),), ())
            told = told if names else tuple(sorted(set(told) | {1}))
            number = layings(names, known, modulus)
            if number <= 1000:
                self.assertEqual(count_cases(question, Sorts(named, modulus), told), number)


class Cases(unittest.TestCase):
    def test_example(self):
        question = (("a",), ((1, ("a", "b")), (1, ("a", "c"))), ())
        cases = [(0, 0, 0), (0, 0, 1), (0, 1, 0), (0, 1, 1), (0, 1, 2)]
        self.assertEqual(list(all_cases(question, Sorts((), 1), ())), cases)
        self.assertEqual(count_cases(question, Sorts((), 1), ()), 5)

    def test_order_of_the_choices(self):
        self.assertEqual(list(all_cases(PAIR, Sorts((1,), 2), (5,))),
                         [(1, 1), (1, 5), (1, 0), (1, 3), (5, 1), (5, 5), (5, 0), (5, 3),
                          (0, 1), (0, 5), (0, 0), (0, 2), (0, 3), (3, 1), (3, 5), (3, 3), (3, 0), (3, 7)])

    def test_against_a_plain_going_through_readings(self):
        for number in range(60):
            question = plain.some_question(number, WIDTHS, 2)
            named = ((), (1,), (0, 3))[number % 3]
            sorts = Sorts(named, 1 + number % 2)
            told = tuple(sorted(set(union_values((question,))) | set(((), (5,))[number % 2])))
            fixed = tuple(sorted(set(told) | set(named)))
            cases = list(all_cases(question, sorts, told))
            choices = [choices_of(case, sorts, fixed) for case in cases]
            self.assertNotIn(None, choices)
            self.assertEqual(choices, sorted(choices))
            self.assertEqual(count_cases(question, sorts, told), len(cases))
            for given in plain.readings_over(question, range(10)):
                reading = tuple(given.values())
                alike = [case for case in cases if are_alike(case, reading, sorts, fixed)]
                self.assertEqual([shape_of(question, reading, sorts, told)], alike)
            for case in cases:
                self.assertTrue(plain.keeps(question, dict(zip(plain.names_of(question), case))))
                self.assertEqual([one for one in cases if are_alike(one, case, sorts, fixed)], [case])

    def test_no_names(self):
        self.assertEqual(list(all_cases(((), ((0, (1,)),), ()), Sorts((), 6), (1,))), [()])
        self.assertEqual(list(all_cases(((), ((0, (1,)),), ((1, 2),)), Sorts((), 6), (1, 2))), [()])
        self.assertEqual(count_cases(((), ((0, (1,)),), ((1, 1),)), Sorts((), 6), (1,)), 0)

    def test_pairs_that_are_never_kept(self):
        for pair in (("a", "a"), (2, 2)):
            question = (("a",), ((0, ("a",)), (0, ("b",))), (pair,))
            self.assertEqual(list(all_cases(question, Sorts((), 2), (2,))), [])
            self.assertEqual(count_cases(question, Sorts((), 2), (2,)), 0)

    def test_eight_named_values_and_modulus_six(self):
        sorts = Sorts(tuple(range(8)), 6)
        cases = list(all_cases(asked(1), sorts, (3, 9)))
        self.assertEqual(cases, [(k,) for k in (0, 1, 2, 3, 4, 5, 6, 7, 9)]
                         + [(k,) for k in (12, 13, 8, 15, 10, 11)])

    def test_the_greatest_value(self):
        self.assertEqual(list(all_cases(asked(1, (GREATEST,)), Sorts((), 1), (GREATEST,))), [(GREATEST,), (0,)])

    def test_a_thousand_layings_and_just_more(self):
        self.assertEqual(layings(1, 994, 6), 1000)
        self.assertEqual(count_cases(asked(1), Sorts((), 6), tuple(range(994))), 1000)
        self.assertEqual(fault(TooMany, count_cases, asked(1), Sorts((), 6), tuple(range(995))), (1000,))
        self.assertEqual(count_cases(asked(1), Sorts((3,), 6), tuple(range(994))), 1000)
        self.assertEqual(fault(TooMany, count_cases, asked(1), Sorts((994,), 6), tuple(range(994))), (1000,))
        self.assertEqual(count_cases(asked(7), Sorts((), 1), ()), 877)
        self.assertEqual(fault(TooMany, all_cases, asked(8), Sorts((), 1), ()), (1000,))
        self.assertEqual(fault(TooMany, count_cases, asked(8), Sorts((), 1), ()), (1000,))

    def test_too_many_layings_though_pairs_leave_few(self):
        question = asked(8, (), (("a", "a"),))
        self.assertEqual(fault(TooMany, all_cases, question, Sorts((), 1), ()), (1000,))
        self.assertEqual(fault(BadTold, all_cases, question, Sorts((), 1), (2, 1)), ((2, 1),))
        self.assertEqual(fault(BadTold, count_cases, question, Sorts((), 1), None), (None,))

    def test_a_generator_changes_nothing_and_yields_tuples(self):
        told = [1, 4]
        cases = list(all_cases(PAIR, Sorts((), 1), told))
        self.assertEqual(told, [1, 4])
        self.assertTrue(all(isinstance(case, tuple) for case in cases))


class Shapes(unittest.TestCase):
    def test_fixed_values_stay_and_others_are_put_down(self):
        question = asked(4)
        self.assertEqual(shape_of(question, (9, 5, 9, 8), Sorts((), 1), ()), (0, 1, 0, 2))
        self.assertEqual(shape_of(question, (9, 5, 9, 8), Sorts((0,), 1), (5,)), (1, 5, 1, 2))
        self.assertEqual(shape_of(question, (9, 5, 7, 8), Sorts((), 2), (1,)), (3, 5, 7, 0))

    def test_a_question_with_too_many_layings_has_shapes(self):
        self.assertEqual(shape_of(asked(8), (9, 9, 8, 8, 7, 7, 6, 6), Sorts((), 1), ()), (0, 0, 1, 1, 2, 2, 3, 3))

    def test_no_names(self):
        self.assertEqual(shape_of(((), ((0, (1,)),), ()), (), Sorts((), 1), (1,)), ())

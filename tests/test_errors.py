"""[0.6] and the heading meetwhere/errors.py: the error classes and their attributes."""
import inspect
import unittest

from meetwhere import errors
from meetwhere.errors import DealError

ATTRIBUTES = {
    "BadWidths": ("index",), "BadRow": ("what",), "BadStore": ("index", "what"), "BadQuestion": ("what", "index"),
    "BadUnion": ("what", "index"), "BadReading": ("reading",), "BadMoves": ("index",), "BadLetters": ("letters",),
    "BadText": ("place",), "BadSorts": ("what",), "BadValue": ("value",), "NoSort": ("number",),
    "BadTold": ("told",), "TooMany": ("most",), "NoAnswer": ("answer",), "BadDealing": ("what", "index"),
    "NoKind": ("kind",), "NoHand": ("hand",), "BadLost": ("index",), "BadOrder": ("order",), "Apart": ("what",),
    "BadFactor": ("factor",), "BadNamed": ("value",), "BadDemands": ("index", "what"), "NotHeld": ("kind", "hand"),
    "BadCopy": ("what",), "NotRight": ("demand",), "BadRoom": ("room",), "BadPlan": ("index", "what"),
    "NoRound": ("index",), "NoPlainAnswer": ("plan",), "BadUnions": ("unions",), "EmptyRows": ("rows",),
    "BadShares": ("index", "what"), "BadMost": ("most",), "BadStep": ("index",), "BadCopies": ("index",),
    "BadHands": ("hands",), "BadSeen": ("index",), "Clash": ("index",), "BadEdits": ("index",),
    "BadGoal": ("what",), "NoStep": ("what",), "Full": ("most",), "NoRow": ("row",), "NothingLeft": ("number",),
    "StillTrial": ("deeds",),
}


class Errors(unittest.TestCase):
    def test_classes_are_just_those_of_the_interface(self):
        found = [name for name, thing in vars(errors).items() if inspect.isclass(thing)]
        self.assertEqual(sorted(found), sorted(list(ATTRIBUTES) + ["DealError"]))

    def test_all_stand_directly_under_deal_error(self):
        self.assertEqual(DealError.__bases__, (ValueError,))
        for name in ATTRIBUTES:
            self.assertEqual(getattr(errors, name).__bases__, (DealError,), name)

    def test_attributes_have_the_names_and_the_order_of_the_interface(self):
        for name, attributes in ATTRIBUTES.items():
            told = tuple(object() for _ in attributes)
            error = getattr(errors, name)(*told)
            self.assertEqual(list(vars(error).items()), list(zip(attributes, told)), name)
            named = getattr(errors, name)(**dict(zip(attributes, told)))
            self.assertEqual(vars(named), vars(error), name)
            self.assertTrue(str(error), name)

    def test_a_list_that_is_told_is_not_kept(self):
        for name, attributes in ATTRIBUTES.items():
            if set(attributes) & {"index", "what", "place"}:
                continue
            thing = [1, [2, (3, [4])]]
            error = getattr(errors, name)(*[thing for _ in attributes])
            thing[1][1][1].append(5)
            thing.clear()
            for attribute in attributes:
                self.assertEqual(getattr(error, attribute), (1, (2, (3, (4,)))), name)
            self.assertEqual([kept.__class__ for kept in error.args], [str], name)

    def test_a_list_that_holds_itself_can_be_told(self):
        thing = []
        thing.append(thing)
        self.assertIsInstance(errors.BadTold(thing).told, tuple)

    def test_they_are_caught_as_deal_error_and_as_value_error(self):
        for error in (DealError, ValueError):
            with self.assertRaises(error):
                raise errors.Full(60)

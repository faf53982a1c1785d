"""[0.5], [0.8] over the whole program: results, and what is equal to what."""
import importlib
import inspect
import pathlib
import unittest

from meetwhere.dealings import Dealing, everywhere
from meetwhere.house import House
from meetwhere.plans import Plan
from meetwhere.seen import Seen
from meetwhere.sorts import Sorts

# Each result of the interface, with its attributes in their order.
RESULTS = {
    "within": {"Outside": "index reading"}, "refining": {"UnlikeRow": "row"},
    "rightness": {"Meets": "rows", "Parted": "index reading store answer"},
    "counts": {"Miscounted": "reading store answer hands"}, "demands": {"Carry": "dealing demand"},
    "needless": {"Breaking": "copies demand"},
    "leastdealings": {"Standings": "fixed free idle", "Fewest": "number dealing", "NoRoom": "needed"},
    "plans": {"PlanRun": "made answered"},
    "planchecks": {"PlanParted": "index case store answer", "PlanOutside": "index case store answer"},
    "handing": {"Covered": "rows", "Uncovered": "index case"},
    "moving": {"Broken": "moment what", "NoOrder": "reached"}, "showing": {"Showing": "right copies"},
}
OTHERS = {"sorts": {"Sorts"}, "dealings": {"Dealing"}, "plans": {"Plan"}, "seen": {"Seen"}, "house": {"House"}}
MODULES = [path.stem for path in (pathlib.Path(__file__).resolve().parent.parent / "meetwhere").glob("*.py")]


def results():
    """Yield each result class with the names of its attributes."""
    for module, classes in RESULTS.items():
        for name, attributes in classes.items():
            yield getattr(importlib.import_module(f"meetwhere.{module}"), name), attributes.split()


def objects():
    """Return one object of each class that has ==, and for each class of the interface that has none."""
    sorts = Sorts((), 1)
    dealing = Dealing((1,), sorts, 1, [((0, (0,)), (0,))])
    plan = Plan((1,), [(dealing, ((("a",), ((0, ("a",)),), ()),))])
    made = [made(*[0 for _ in attributes]) for made, attributes in results()]
    return [sorts, dealing, plan, Seen((1,), sorts, 1)] + made


class Objects(unittest.TestCase):
    def test_every_class_is_told(self):
        for module in MODULES:
            if module == "errors":
                continue
            found = importlib.import_module(f"meetwhere.{module}")
            classes = {name for name, thing in vars(found).items()
                       if inspect.isclass(thing) and thing.__module__ == found.__name__}
            told = set(RESULTS.get(module, ())) | OTHERS.get(module, set())
            # Ground is no part of the interface: it is what least dealings share.
            self.assertEqual(classes - {"Ground"}, told, module)

    def test_results_keep_the_very_things_under_the_told_names(self):
        for made, attributes in results():
            things = [[object()] for _ in attributes]
            one = made(*things)
            self.assertEqual(list(vars(one)), attributes)
            self.assertEqual(list(inspect.signature(made).parameters), attributes)
            for name, thing in zip(attributes, things):
                self.assertIs(getattr(one, name), thing)
            self.assertTrue(one == made(**dict(zip(attributes, things))))

    def test_results_are_equal_by_all_attributes(self):
        for made, attributes in results():
            things = [(k, (k,)) for k in range(len(attributes))]
            one, same = made(*things), made(*[(k, (k,)) for k in range(len(attributes))])
            self.assertIs(one == same, True)
            self.assertIs(one != same, False)
            for at in range(len(attributes)):
                other = made(*[(9,) if k == at else thing for k, thing in enumerate(things)])
                self.assertIs(one == other, False, (made, attributes[at]))
                self.assertIs(one != other, True)
                self.assertIs(other == one, False)

    def test_objects_of_two_classes_are_never_equal(self):
        every = objects()
        for at, one in enumerate(every):
            for place, other in enumerate(every):
                self.assertIs(one == other, at == place, (one, other))
                self.assertIs(one != other, at != place)
            for thing in (None, 0, True, (), (0,), (0, 0), (0, 0, 0), (0, 0, 0, 0), [], "", {}, object(),
                          tuple(vars(one).values()), dict(vars(one))):
                self.assertIs(one == thing, False)
                self.assertIs(one != thing, True)
                self.assertIs(thing == one, False)

    def test_no_class_stands_under_another(self):
        for made, _ in results():
            self.assertEqual(made.__bases__, (object,))
        for made in (Sorts, Dealing, Plan, Seen, House):
            self.assertEqual(made.__bases__, (object,))

    def test_nothing_that_is_asked_changes(self):
        sorts = Sorts((3,), 2)
        dealing = everywhere((1,), sorts, 2)
        def parts():
            return (dealing.widths, dealing.sorts, dealing.hands, dealing.rule, sorts.named, sorts.modulus)
        before = parts()
        house, seen = House(dealing), Seen((1,), sorts, 2)
        house.put((0, (1,)))
        house.strike_copy((0, (0,)), 0)
        seen.with_sight(((0, (1,)),), 0, ())
        for _ in dealing:
            dealing.without((0,)).with_lot((0, (1,)), (1,))
        self.assertEqual((seen.sights, seen.found, seen.missing), ((), (), ()))
        self.assertEqual(parts(), before)
        self.assertTrue(dealing == everywhere((1,), sorts, 2))

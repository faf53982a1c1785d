"""[10.8]: edits of dealings, and pools of them."""
import random
import unittest

from meetwhere.dealings import all_kinds
from meetwhere.edits import check_edits, edited_dealing
from meetwhere.errors import BadEdits
from meetwhere.needless import copies_of
from meetwhere.sorts import Sorts
from tests import plain
from tests.plain import NO_SEQUENCES, fault, in_lists, unchanged
from tests.test_moving import K, dealing_with

FRAMES = (((1,), Sorts((), 2), 2), ((1, 2), Sorts((3,), 1), 3), ((2, 1), Sorts((), 1), 8))
FRAME = ((1, 2), Sorts((), 2), 2)


def some_edit(made, frame):
    """Return an edit made up by a source."""
    word, hand = made.choice(("copy", "strike", "fill", "clear")), made.randrange(frame[2])
    target = made.choice(all_kinds(*frame[:2])) if word in ("copy", "strike") else made.randrange(len(frame[0]))
    return (word, target, hand)


def edited(copies, frame, edit):
    """Return the copies behind an edit, by the four words."""
    word, target, hand = edit
    touched = {(target, hand)} if word in ("copy", "strike") else {
        (kind, hand) for kind in all_kinds(*frame[:2]) if kind[0] == target}
    return copies | touched if word in ("copy", "fill") else copies - touched


class Edited(unittest.TestCase):
    def test_one_after_another(self):
        for number in range(300):
            made, frame = random.Random(number), FRAMES[number % 3]
            dealing = plain.some_dealing(number, *frame)
            edits = tuple(some_edit(made, frame) for _ in range(number % 7))
            copies = set(copies_of(dealing))
            for edit in edits:
                copies = edited(copies, frame, edit)
            found = edited_dealing(dealing, edits)
            self.assertTrue(found == dealing_with(frame, sorted(copies)))
            self.assertTrue(edited_dealing(dealing, in_lists(edits)) == found)
            if edits:
                self.assertEqual(unchanged(self, lambda pool: check_edits(dealing, pool), edits), edits)

    def test_each_word(self):
        dealing = dealing_with(FRAME, [(K, 0)])
        self.assertEqual(copies_of(edited_dealing(dealing, [("copy", K, 1)])), ((K, 0), (K, 1)))
        self.assertEqual(copies_of(edited_dealing(dealing, [("strike", K, 0)])), ())
        self.assertEqual(edited_dealing(dealing, [("fill", 0, 1)]).held(1), ((0, (0,)), (0, (1,))))
        self.assertEqual(edited_dealing(dealing, [("fill", 1, 1)]).held(1), tuple(
            (1, (v, w)) for v in (0, 1) for w in (0, 1)))
        self.assertEqual(copies_of(edited_dealing(dealing, [("fill", 0, 0), ("fill", 1, 0), ("clear", 0, 0)])),
                         tuple(((1, (v, w)), 0) for v in (0, 1) for w in (0, 1)))
        self.assertEqual(copies_of(dealing), ((K, 0),))

    def test_whatever_was_before(self):
        dealing = dealing_with(FRAME, [(K, 0)])
        for edit in (("copy", K, 0), ("strike", K, 1), ("clear", 1, 0), ("clear", 0, 1)):
            self.assertTrue(edited_dealing(dealing, [edit]) == dealing)
        self.assertTrue(edited_dealing(dealing, ()) == dealing)
        self.assertTrue(edited_dealing(dealing, [("strike", K, 0), ("copy", K, 0)] * 3) == dealing)
        self.assertEqual(copies_of(edited_dealing(dealing, [("copy", K, 0), ("strike", K, 0)] * 3)), ())

    def test_numbers_of_edits(self):
        dealing, edit = dealing_with(FRAME, []), ("copy", K, 0)
        for many in range(7):
            self.assertEqual(len(copies_of(edited_dealing(dealing, [edit] * many))), min(many, 1))
        for many in range(1, 7):
            self.assertEqual(check_edits(dealing, [list(edit)] * many), (edit,) * many)
        self.assertEqual(fault(BadEdits, edited_dealing, dealing, [edit] * 7), (0,))
        self.assertEqual(fault(BadEdits, check_edits, dealing, [edit] * 7), (0,))
        self.assertEqual(fault(BadEdits, check_edits, dealing, ()), (0,))
        self.assertEqual(fault(BadEdits, check_edits, dealing, []), (0,))

    def test_wrong_ones(self):
        dealing = dealing_with(FRAME, [])
        for function in (edited_dealing, check_edits):
            for thing in NO_SEQUENCES:
                self.assertEqual(fault(BadEdits, function, dealing, thing), (0,))
            for thing in (None, 5, "abc", (), ("copy", K), ("copy", K, 0, 0), ("put", K, 0), ("put", 0, 0), (None, 0, 0),
                          (True, K, 0), (None, K, 0), (["fill"], 0, 0), ("", 1, 1),
                          (["copy"], K, 0), ("Copy", K, 0), ("copy", 0, 0), ("strike", 1, 0), ("fill", K, 0),
                          ("clear", K, 0), ("copy", K, 2), ("copy", K, -1), ("copy", K, True), ("copy", K, None),
                          ("fill", 0, 2), ("fill", 0, False), ("fill", 0, None), ("fill", 2, 0), ("fill", -1, 0),
                          ("fill", True, 0),
                          ("clear", False, 0), ("clear", None, 0), ("clear", "0", 0), ("clear", 0, -1),
                          ("clear", 0.0, 0),
                          ("copy", (0, (2,)), 0), ("copy", (2, (0,)), 0), ("strike", (0, (True,)), 0),
                          ("strike", (0, (0, 0)), 0), ("strike", None, 0), {0: "copy", 1: K, 2: 0}):
                self.assertEqual(fault(BadEdits, function, dealing, [thing, None]), (0,), thing)
                edits = [("fill", 1, 1), ["copy", [0, [1]], 0], thing, None]
                self.assertEqual(fault(BadEdits, function, dealing, edits), (2,), thing)

    def test_nothing_is_changed_or_kept(self):
        dealing, edits = dealing_with(FRAME, []), [["copy", [0, [1]], 1], ["fill", 1, 0]]
        found = edited_dealing(dealing, edits)
        self.assertEqual(edits, [["copy", [0, [1]], 1], ["fill", 1, 0]])
        plain.wreck(edits)
        self.assertEqual(len(copies_of(found)), 5)
        self.assertEqual(copies_of(dealing), ())

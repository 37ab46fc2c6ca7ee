"""[10.1]: edits."""

import copy
import random
import unittest

from headamid.edits import edited_all, edited_world, moved_fields, undo_of
from headamid.errors import BadEdit, BadEdits
from headamid.layings import Laying
from headamid.worlds import World
from tests.samples import (
    DIAMOND, NO_SEQUENCES, ONE, SAME, TWELVE, WIDE, as_tuples, caught, due_edited, name_worlds, plain_world,
    random_edit, random_places, random_worlds,
)

WORLDS = [ONE, DIAMOND, TWELVE, WIDE] + name_worlds(2001, 60, 7, 3) + random_worlds(2002, 60, 12, 3, methods=True)
# Class 0 is full, class 1 is empty, class 2 has both others as bases.
THREE = World([((), 3, (0, 1, 2)), ((), 0, ()), ((1, 0), 1, (5, 3))])
NO_NUMBERS = (True, False, 1.0, 0.0, None, "0", "", (0,), [0], {}, SAME)
FORMS = {"field": (0,), "unfield": (0,), "method": (0, 5), "unmethod": (0, 0), "base": (2, 1, 0), "unbase": (2, 1),
         "class": ((), 0, ()), "unclass": ()}


def what(world, edit):
    """The word of the BadEdit that both functions raise, None if they raise none."""
    rows = [caught(BadEdit, call, world, edit) for call in (edited_world, undo_of)]
    assert rows[0] == rows[1] and (rows[0] is None or list(rows[0]) == ["what"])
    return rows[0] and rows[0]["what"]


class WordsTest(unittest.TestCase):
    def refused(self, word, world, edits):
        for edit in edits:
            for row in (edit, list(edit)) if isinstance(edit, tuple) else (edit,):
                self.assertEqual(what(world, row), word, edit)

    def test_form(self):
        self.refused("form", THREE, NO_SEQUENCES)
        self.refused("form", THREE, [(), [], (None,), ("fields", 0), ("Field", 0), ("",), (b"field", 0), (SAME, 0), (SAME,),
                                     (["field"], 0), ({}, 0), (0, 0), (("unclass",),)])
        for word, rest in FORMS.items():
            self.refused("form", THREE, [(word,) + rest + (0,), (word,) + rest + (0, 0), (word,) + (9,) * (len(rest) + 1)])
            if rest:
                self.refused("form", THREE, [(word,) + rest[:-1], (word, 9)[:len(rest)]])

    def test_class_ahead_of_all_other_words(self):
        for word in ("field", "unfield", "method", "unmethod", "base", "unbase"):
            for c in NO_NUMBERS + (-1, 3, 99):
                self.refused("class", THREE, [(word, c, None, None)[:len(FORMS[word]) + 1]])
                self.refused("class", THREE, [(word, c) + FORMS[word][1:]])

    def test_fields(self):
        self.refused("many", THREE, [("field", 0), ("unfield", 1)])
        for word, due in (("field", (1, 2)), ("unfield", (0, 2))):
            for c in due:
                self.assertIsNone(what(THREE, (word, c)))
        self.assertEqual(edited_world(THREE, ["field", 2]).owns, (3, 0, 2))
        self.assertEqual(edited_world(THREE, ("unfield", 0)).owns, (2, 0, 1))

    def test_methods(self):
        for word in ("method", "unmethod"):
            self.refused("name", THREE, [(word, c, name) for c in range(3) for name in NO_NUMBERS + (-1, 6, 99)])
        self.refused("method", THREE, [("method", 0, 0), ("method", 0, 2), ("method", 2, 3), ("unmethod", 0, 3),
                                       ("unmethod", 1, 0), ("unmethod", 2, 4)])
        self.refused("many", THREE, [("method", 0, 3), ("method", 0, 5)])
        self.assertEqual(edited_world(THREE, ("method", 2, 4)).methods, ((0, 1, 2), (), (3, 4, 5)))
        self.assertEqual(edited_world(THREE, ["method", 1, 0]).methods, ((0, 1, 2), (0,), (3, 5)))
        self.assertEqual(edited_world(THREE, ("unmethod", 0, 1)).methods, ((0, 2), (), (3, 5)))

    def test_bases(self):
        self.refused("base", THREE, [("base", 2, base, at) for base in NO_NUMBERS + (2, 3, -1, 0, 1) for at in (0, 9)])
        self.refused("base", THREE, [("base", 1, 1, 0), ("base", 1, 2, 0), ("base", 0, 0, None), ("base", 0, -1, 0)])
        self.refused("place", THREE, [("base", 1, 0, at) for at in NO_NUMBERS + (1, 2, -1)])
        self.refused("place", DIAMOND, [("base", 3, 0, at) for at in NO_NUMBERS + (3, -1)])
        for at, bases in enumerate(((0, 1, 2), (1, 0, 2), (1, 2, 0))):
            self.assertEqual(edited_world(DIAMOND, ["base", 3, 0, at]).bases[3], bases)
        self.refused("base", THREE, [("unbase", 2, base) for base in NO_NUMBERS + (2, 3, -1)])
        self.refused("base", THREE, [("unbase", 1, 0), ("unbase", 0, 0), ("unbase", 0, 1)])
        self.assertEqual(edited_world(THREE, ("unbase", 2, 1)).bases, ((), (), (0,)))
        self.assertEqual(edited_world(THREE, ("unbase", 2, 0)).bases, ((), (), (1,)))

    def test_classes(self):
        self.refused("many", TWELVE, [("class", (), 0, ()), ("class", None, None, None), ("class", (12,), 9, ())])
        bad = NO_SEQUENCES + ((0, 0), (3,), [-1], (True,), ((0,),), (None,))
        self.refused("class", THREE, [("class", row, 0, ()) for row in bad])
        self.refused("class", THREE, [("class", (), 0, row) for row in NO_SEQUENCES + ((6,), [1, 1], (True,), (0, 1, 2, 3))])
        self.refused("class", THREE, [("class", (), many, ()) for many in NO_NUMBERS + (4, -1)])
        self.refused("many", ONE, [("unclass",)])
        self.assertEqual(edited_world(THREE, ["class", [2, 0], 3, [4, 1]]),
                         World(THREE.classes + (((2, 0), 3, (1, 4)),)))
        self.assertEqual(edited_world(THREE, ["unclass"]), World(THREE.classes[:2]))
        eleven = edited_world(TWELVE, ("unclass",))
        self.assertEqual(len(edited_world(eleven, ("class", (10,), 1, ()))), 12)


class EditedTest(unittest.TestCase):
    def test_drawn(self):
        rng = random.Random(2003)
        seen = {}
        for world in WORLDS * 3:
            for _ in range(12):
                edit = random_edit(rng, world)
                kept = copy.deepcopy(edit)
                due = due_edited(world, edit)
                key = (edit[0], due if isinstance(due, str) else "")
                seen[key] = seen.get(key, 0) + 1
                if isinstance(due, str):
                    self.assertEqual(what(world, edit), due)
                    continue
                found = edited_world(world, edit)
                self.assertEqual((found, type(found)), (due, World))
                undo = undo_of(world, edit)
                self.assertEqual(edited_world(found, undo), world)
                self.assertEqual((as_tuples(undo), type(undo)), (undo, tuple))
                self.check_undo(world, edit, undo)
                self.assertEqual(undo_of(found, undo)[0], edit[0])
                self.assertEqual(edit, kept)
        self.assertEqual(len([key for key in seen if key[1] == ""]), 8)
        self.assertGreater(min(seen[key] for key in seen if key[1] == ""), 30)

    def check_undo(self, world, edit, undo):
        pairs = {"field": "unfield", "method": "unmethod", "base": "unbase", "class": "unclass"}
        pairs.update({other: word for word, other in pairs.items()})
        self.assertEqual(undo[0], pairs[edit[0]])
        if edit[0] == "unclass":
            self.assertEqual(undo[1:], world.classes[-1])
        elif edit[0] == "unbase":
            self.assertEqual(undo[1:], (edit[1], edit[2], list(world.bases[edit[1]]).index(edit[2])))
        elif edit[0] != "class":
            self.assertEqual(undo[1:], tuple(edit[1:3]))

    def test_undo_by_hand(self):
        self.assertEqual([undo_of(THREE, edit) for edit in (
            ["field", 1], ("unfield", 0), ("method", 1, 4), ["unmethod", 2, 5], ("base", 1, 0, 0), ["unbase", 2, 0],
            ("unbase", 2, 1), ("class", [0], 1, []), ["unclass"])], [
            ("unfield", 1), ("field", 0), ("unmethod", 1, 4), ("method", 2, 5), ("unbase", 1, 0), ("base", 2, 0, 1),
            ("base", 2, 1, 0), ("unclass",), ("class", (1, 0), 1, (3, 5))])

    def test_what_is_passed_in_has_no_effect_later(self):
        edit = ["class", [2, 0], 1, [4]]
        found = edited_world(THREE, edit)
        edit[1].append(1)
        edit[3][0] = 0
        self.assertEqual(found.classes[3], ((2, 0), 1, (4,)))
        self.assertEqual(len(THREE), 3)


class AllTest(unittest.TestCase):
    def test_drawn(self):
        rng = random.Random(2004)
        refused = made = 0
        for world in WORLDS * 2:
            last, edits, due = world, [], None
            for index in range(rng.randint(0, 7)):
                edits.append(random_edit(rng, last))
                after = due_edited(last, edits[-1])
                if isinstance(after, str):
                    due = (index, after)
                    edits += [None, random_edit(rng, last)]
                    break
                last = after
            for row in (edits, tuple(edits)):
                if due is None:
                    made += 1
                    self.assertEqual(edited_all(world, row), last)
                else:
                    refused += 1
                    self.assertEqual(tuple(caught(BadEdits, edited_all, world, row).values()), due)
        self.assertGreater(min(refused, made), 50)

    def test_none(self):
        for empty in ((), []):
            found = edited_all(THREE, empty)
            self.assertEqual((found, type(found)), (THREE, World))

    def test_refused(self):
        for thing in NO_SEQUENCES:
            self.assertEqual(caught(BadEdits, edited_all, THREE, thing), {"index": 0, "what": "edits"})
        good = [("field", 1), ("class", (0,), 0, ()), ("field", 3), ("unclass",), ("unclass",), ("unclass",)]
        self.assertEqual(edited_all(THREE, good), World([((), 3, (0, 1, 2))]))
        for index in range(7):
            for edit, word in ((None, "form"), (("field", 99), "class"), (("unbase", 0, 0), "base"), (("field", 0), "many")):
                edits = good[:index] + [edit] + good[index:]
                self.assertEqual(list(caught(BadEdits, edited_all, THREE, edits).items()),
                                 [("index", index), ("what", word)])
        # Each edit is checked in the world that those before it have made.
        for edits, due in (([("field", 3)], (0, "class")), ([("class", (), 0, ()), ("field", 3), ("unfield", 3),
                                                              ("unfield", 3)], (3, "many")),
                           ([("unbase", 2, 1), ("base", 2, 1, 2)], (1, "place")),
                           ([("method", 2, 0), ("method", 2, 1)], (1, "many"))):
            self.assertEqual(tuple(caught(BadEdits, edited_all, THREE, edits).values()), due)


class MovedTest(unittest.TestCase):
    def test_drawn(self):
        rng = random.Random(2005)
        moved = 0
        for world in WORLDS:
            edit = random_edit(rng, world)
            later = due_edited(world, edit)
            later = world if isinstance(later, str) else later
            layings = [Laying(one, random_places(rng, len(one.all_fields), 2)) for one in (world, later)]
            rows = [dict(zip(laying.fields, laying.places)) for laying in layings]
            due = tuple(sorted(f for f in rows[0] if f in rows[1] and rows[0][f] != rows[1][f]))
            self.assertEqual(moved_fields(*layings), due)
            self.assertEqual(moved_fields(*layings[::-1]), due)
            self.assertIs(type(due), tuple)
            self.assertEqual(moved_fields(layings[0], layings[0]), ())
            moved += len(due)
        self.assertGreater(moved, 100)

    def test_by_hand(self):
        one, other = plain_world([(), ()], [2, 1]), plain_world([(), (0,), ()], [1, 2, 1])
        found = moved_fields(Laying(one, (1, 2, -1)), Laying(other, (2, 1, 3, 4)))
        self.assertEqual(found, ((0, 0), (1, 0)))
        self.assertEqual({type(item) for item in (found, *found)}, {tuple})
        self.assertEqual(moved_fields(Laying(one, (1, 2, -1)), Laying(other, (1, -1, 3, 4))), ())


if __name__ == "__main__":
    unittest.main()

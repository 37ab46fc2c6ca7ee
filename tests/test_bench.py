"""[10.6]: the bench."""

import copy
import random
import unittest

from headamid.bench import Bench
from headamid.errors import BadEdit, BadEdits, BadGoals, NothingMade, TooMany
from headamid.layings import Laying, close_fault
from headamid.mends import goals_met
from headamid.rings import laid_world
from headamid.staying import stayed_laying
from tests.samples import (
    DIAMOND, EXAMPLE, NO_SEQUENCES, ONE, SAME, THREE, TWELVE, all_parts, as_tuples, caught, due_edited, name_worlds,
    random_edit, random_worlds, ringed_worlds,
)

GOALS = ("close", "table", "clear", "row")
NAMES = ["world_now", "laying_now", "edits_made", "shifts"]


def stand(bench):
    """The four properties."""
    return tuple(getattr(bench, name) for name in NAMES)


def due_laying(world):
    found = laid_world(world)
    return found if isinstance(found, Laying) else None


def due_moved(one, other):
    """How many fields both layings have at unlike places."""
    if one is None or other is None:
        return 0
    places = dict(zip(other.fields, other.places))
    return sum(f in places and places[f] != place for f, place in zip(one.fields, one.places))


def due_begin(world):
    return world, due_laying(world), (), 0


def due_after(state, edit):
    """The four properties behind an edit that is not refused."""
    world, laying, edits, shifts = state
    later = due_edited(world, edit)
    edits = edits + (as_tuples(edit),)
    stayed = None if laying is None else stayed_laying(world, laying, edit)
    if stayed is not None:
        return later, stayed, edits, shifts
    found = due_laying(later)
    return later, found, edits, shifts + due_moved(laying, found)


def worlds(seed):
    return ringed_worlds(seed, 40, 7, 6) + name_worlds(seed + 1, 30, 7, 2) + random_worlds(
        seed + 2, 20, 12, 3, methods=True) + [ONE, DIAMOND, EXAMPLE, THREE, TWELVE]


class BenchTest(unittest.TestCase):
    def check(self, bench, due):
        found = stand(bench)
        self.assertEqual(found, due)
        self.assertEqual((type(found[2]), as_tuples(found[2]), type(found[3])), (tuple, found[2], int))
        if found[1] is not None:
            self.assertIsNone(close_fault(found[0], found[1]))
        self.assertEqual(found[1] is None, due_laying(found[0]) is None)

    def test_begins(self):
        for world in worlds(2401):
            bench = Bench(world)
            self.check(bench, due_begin(world))
            self.assertFalse(hasattr(bench, "world"))
            self.assertEqual(caught(NothingMade, bench.take_back), {})
            self.check(bench, due_begin(world))

    def test_drawn_histories(self):
        rng = random.Random(2402)
        seen = {}
        for world in worlds(2403):
            bench, states = Bench(world), [due_begin(world)]
            for _ in range(30):
                before = stand(bench)
                kept = before[0].classes, before[1] and before[1].places, before[2], before[3]
                what = self.deed(rng, bench, states)
                seen[what] = seen.get(what, 0) + 1
                self.check(bench, states[-1])
                self.assertEqual((before[0].classes, before[1] and before[1].places, before[2], before[3]), kept)
            while len(states) > 1:
                self.assertIsNone(bench.take_back())
                states.pop()
                self.check(bench, states[-1])
            self.assertEqual(caught(NothingMade, bench.take_back), {})
        self.assertEqual(sorted(seen), ["back", "made", "moved", "no laying", "nothing", "refused", "tried"])
        self.assertGreater(min(seen.values()), 10, seen)

    def deed(self, rng, bench, states):
        """One deed at the bench and at the states that it should go through, and what it was."""
        deed = rng.choice(("edit", "edit", "edit", "edit", "edit", "back", "try"))
        if deed == "back":
            if len(states) == 1:
                self.assertEqual(caught(NothingMade, bench.take_back), {})
                return "nothing"
            self.assertIsNone(bench.take_back())
            states.pop()
            return "back"
        if deed == "try":
            self.try_edits(rng, bench, states[-1])
            return "tried"
        edit = random_edit(rng, states[-1][0])
        due = due_edited(states[-1][0], edit)
        if isinstance(due, str):
            self.assertEqual(caught(BadEdit, bench.make_edit, edit), {"what": due})
            return "refused"
        states.append(due_after(states[-1], edit))
        self.assertIsNone(bench.make_edit(edit))
        if states[-1][1] is None:
            return "no laying"
        return "moved" if states[-1][3] > states[-2][3] else "made"

    def try_edits(self, rng, bench, state):
        edits, last = [], state
        fault = None
        for index in range(rng.randint(0, 4)):
            edits.append(random_edit(rng, last[0]))
            due = due_edited(last[0], edits[-1])
            if isinstance(due, str):
                fault = {"index": index, "what": due}
                break
            last = due_after(last, edits[-1])
        goals = rng.choice(all_parts(GOALS)[1:])
        edits = rng.choice((list, tuple))(edits)
        kept = copy.deepcopy(edits)
        if fault is not None:
            self.assertEqual(caught(BadEdits, bench.tried_edits, edits, goals), fault)
        elif "row" in goals and len(last[0]) > 6:
            self.assertEqual(caught(TooMany, bench.tried_edits, edits, goals), {"count": len(last[0])})
        else:
            found = bench.tried_edits(edits, list(goals))
            self.assertEqual((found, type(found)), ((goals_met(last[0], goals), last[3] - state[3]), tuple))
            self.assertEqual([type(thing) for thing in found], [bool, int])
        self.assertEqual(edits, kept)

    def test_edits_made(self):
        bench = Bench(DIAMOND)
        edit = ["class", [2, 0, 1], 1, [4, 0, 3]]
        bench.make_edit(edit)
        bench.make_edit(["field", 4])
        edit[1].append(3)
        edit[3].clear()
        self.assertEqual(bench.edits_made, (("class", (2, 0, 1), 1, (4, 0, 3)), ("field", 4)))
        self.assertEqual(bench.world_now.classes[4], ((2, 0, 1), 2, (0, 3, 4)))
        bench.take_back()
        self.assertEqual(bench.edits_made, (("class", (2, 0, 1), 1, (4, 0, 3)),))

    def test_shifts_by_hand(self):
        bench = Bench(EXAMPLE)
        self.assertEqual(bench.laying_now.places, (1, 2, -1, 2))
        bench.make_edit(("field", 0))
        # The field (0, 1) takes the place 2: (1, 0) and (3, 0) move outwards.
        self.assertEqual((bench.laying_now.places, bench.shifts), ((1, 2, 3, -1, 3), 2))
        bench.make_edit(("unfield", 0))
        self.assertEqual((bench.laying_now.places, bench.shifts), ((1, 2, -1, 2), 4))
        bench.make_edit(("class", (1, 3), 0, ()))
        self.assertEqual((bench.laying_now, bench.shifts), (None, 4))
        bench.make_edit(("field", 0))
        self.assertEqual((bench.laying_now, bench.shifts), (None, 4))
        bench.make_edit(("unclass",))
        self.assertEqual((bench.laying_now.places, bench.shifts), ((1, 2, 3, -1, 3), 4))
        self.assertEqual(bench.tried_edits([("unfield", 0), ("field", 0)], ["close"]), (True, 4))
        self.assertEqual(bench.tried_edits([("unfield", 0), ("class", (1, 3), 0, ())], ["close"]), (False, 2))
        self.assertEqual(bench.tried_edits((), ["close"]), (True, 0))
        for shifts in (4, 4, 4, 4, 2):
            self.assertEqual(bench.shifts, shifts)
            bench.take_back()
        self.assertEqual(stand(bench), (EXAMPLE, Laying(EXAMPLE, (1, 2, -1, 2)), (), 0))

    def test_no_field_is_moved_where_that_can_be(self):
        bench = Bench(EXAMPLE)
        for edit, places in ((("field", 2), (1, 2, -1, -2, 2)), (("field", 3), (1, 2, -1, -2, 2, 3)),
                             (("unclass",), (1, 2, -1, -2, 2, 3)), (("unfield", 2), (1, 2, -1, 2, 3))):
            bench.make_edit(edit)
            self.assertEqual((bench.laying_now.places, bench.shifts), (places, 0))

    def test_refused_trials_in_order(self):
        bench = Bench(THREE.without_last())
        bench.make_edit(("field", 4))
        before = stand(bench)
        more = ("class", (0,), 0, ())
        for goals, index in (((), 0), (None, 0), (("close", "close"), 1), (["row", SAME], 1), (GOALS + ("row",), 0)):
            for edits in (None, [None], [more], [more, ("field", 99)]):
                self.assertEqual(caught(BadGoals, bench.tried_edits, edits, goals), {"index": index})
                self.assertEqual(stand(bench), before)
        for goals in (("row",), ["close"]):
            for edits in NO_SEQUENCES:
                self.assertEqual(caught(BadEdits, bench.tried_edits, edits, goals), {"index": 0, "what": "edits"})
            for edits, due in (([more, more, ("field", 8)], (2, "class")), ([("field", 0), None], (1, "form")),
                               (([], ), (0, "form")), ([more] * 7, (6, "many"))):
                self.assertEqual(tuple(caught(BadEdits, bench.tried_edits, edits, goals).values()), due)
                self.assertEqual(stand(bench), before)
        self.assertEqual(caught(TooMany, bench.tried_edits, [more], ["clear", "row"]), {"count": 7})
        self.assertEqual(caught(TooMany, bench.tried_edits, (more, more), ["row"]), {"count": 8})
        self.assertIs(bench.tried_edits((more, ("unclass",)), ["row"])[0], goals_met(before[0], ["row"]))
        self.assertEqual(bench.tried_edits([more, more], ["clear"]), (True, 0))
        self.assertEqual(stand(bench), before)

    def test_refused_edits(self):
        bench = Bench(DIAMOND)
        before = stand(bench)
        for edit in NO_SEQUENCES + ((), ("field",), ("unclass", 0)):
            self.assertEqual(caught(BadEdit, bench.make_edit, edit), {"what": "form"})
        self.assertEqual(caught(BadEdit, bench.make_edit, ("unfield", True)), {"what": "class"})
        self.assertEqual(caught(BadEdit, bench.make_edit, ("base", 3, 0, 3)), {"what": "place"})
        self.assertEqual(stand(bench), before)
        self.assertEqual(caught(NothingMade, bench.take_back), {})

    def test_properties_are_read_only_and_two_benches_are_apart(self):
        one, other = Bench(DIAMOND), Bench(DIAMOND)
        one.make_edit(("unclass",))
        self.assertEqual((len(one.world_now), len(other.world_now), other.edits_made), (3, 4, ()))
        for name in NAMES:
            self.assertIsInstance(vars(Bench)[name], property)


if __name__ == "__main__":
    unittest.main()

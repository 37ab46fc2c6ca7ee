"""[10.4], [10.5]: goals, mends and spoilers."""

import itertools
import random
import unittest

from headamid.definers import two_answers
from headamid.errors import BadGoals, BadPool, TooMany
from headamid.layings import Laying
from headamid.mends import find_mends, find_spoilers, goals_met, mend_fault
from headamid.rings import laid_world
from headamid.stretches import stretch_row
from headamid.tables import table_laid
from headamid.worlds import World
from tests.samples import (
    DIAMOND, NO_SEQUENCES, ONE, SAME, THREE, TWELVE, all_parts, as_tuples, caught, due_edited, name_worlds,
    plain_world, random_edit, random_worlds, ringed_worlds,
)

GOALS = ("close", "table", "clear", "row")
# Names and fields tied in a ring, two answers in each heir, no row: no goal is met.
NONE_MET = World([((), 1, (0, 1)), ((), 1, (0, 2)), ((), 1, (0, 3)), ((0, 1), 0, ()), ((1, 2), 0, ()), ((2, 0), 0, ())])
POOL = [("unbase", 3, 0), ["unmethod", 0, 0], ("field", 3)]


def due_goal(world, goal):
    if goal == "close":
        return isinstance(laid_world(world), Laying)
    if goal == "table":
        return isinstance(table_laid(world), Laying)
    if goal == "clear":
        return two_answers(world) == ()
    return isinstance(stretch_row(world), tuple)


def due_met(world, goals):
    return all([due_goal(world, goal) for goal in goals])


def due_made(world, pool, part):
    """The world of a part of the pool, None if an edit is refused."""
    for index in part:
        world = due_edited(world, pool[index])
        if isinstance(world, str):
            return None
    return world


def due_parts(world, pool, goals, wanted):
    """The parts that meet the goals as wanted, without those that hold another such part."""
    met = []
    for part in all_parts(range(len(pool))):
        made = due_made(world, pool, part)
        if made is not None and due_met(made, goals) == wanted:
            met.append(part)
    return tuple(part for part in met if not any(set(other) < set(part) for other in met))


def drawn_pool(rng, world, most=6):
    """A pool of edits, some of them doubled, some of other worlds."""
    pool = []
    for _ in range(rng.randint(1, most)):
        edit = rng.choice(pool) if pool and rng.random() < 0.1 else random_edit(rng, world)
        pool.append(edit)
    return rng.choice((list, tuple))(pool)


def worlds(seed, many=60):
    """Worlds of up to six classes that often miss a goal."""
    rng = random.Random(seed)
    found = ringed_worlds(seed + 1, many, 6, 6) + name_worlds(seed + 2, many, 6, 1)
    for world in ringed_worlds(seed + 3, many, 6, 6):
        names = [rng.sample(range(6), rng.randint(0, 2)) for _ in world]
        found.append(World([(bases, fields, row) for (bases, fields, _), row in zip(world, names)]))
    for at in range(2 * many):
        world = NONE_MET
        for edit in [random_edit(rng, NONE_MET) for _ in range(at % 5)]:
            later = due_edited(world, edit)
            world = later if isinstance(later, World) and len(later) < 7 else world
        found.append(world)
    return found + [ONE, DIAMOND]


class GoalsTest(unittest.TestCase):
    def test_each_goal_and_all(self):
        seen = {}
        for world in worlds(2201):
            for goals in all_parts(GOALS)[1:]:
                found = goals_met(world, goals)
                self.assertIs(found, due_met(world, goals))
                self.assertIs(goals_met(world, list(goals[::-1])), found)
                seen[(goals, found)] = seen.get((goals, found), 0) + 1
        self.assertEqual(len([key for key in seen if len(key[0]) == 1]), 8)
        self.assertGreater(min(seen[key] for key in seen if len(key[0]) in (1, 4)), 10)
        self.assertEqual([goals_met(NONE_MET, [goal]) for goal in GOALS], [False] * 4)

    def test_greater_worlds(self):
        for world in [TWELVE, THREE] + random_worlds(2202, 80, 12, 3, methods=True):
            for goals in all_parts(GOALS[:3])[1:]:
                self.assertIs(goals_met(world, goals), due_met(world, goals))

    def test_bad_goals(self):
        bad = (None, True, 0, "", "Close", "closed", b"close", ("close",), ["row"], {}, SAME)
        calls = ((goals_met, (DIAMOND,)), (find_mends, (DIAMOND, POOL)), (find_spoilers, (DIAMOND, POOL)))
        for call, things in calls:
            for thing in NO_SEQUENCES + ((), [], GOALS + ("close",), list(GOALS) + [None], ("close",) * 5):
                self.assertEqual(caught(BadGoals, call, *things, thing), {"index": 0})
            for index in range(4):
                for thing in bad + GOALS[:index]:
                    goals = list(GOALS)
                    goals[index] = thing
                    self.assertEqual(caught(BadGoals, call, *things, goals), {"index": index})
                    goals[3] = None
                    self.assertEqual(caught(BadGoals, call, *things, tuple(goals)), {"index": index})
            self.assertEqual(caught(BadGoals, call, *things, ("row", "close", "row")), {"index": 2})
        for thing in ((), "row", ["clear", None]):
            self.assertEqual(caught(BadGoals, mend_fault, DIAMOND, POOL, thing, None),
                             {"index": 1 if isinstance(thing, list) else 0})

    def test_too_many_classes_for_rows(self):
        for world in (THREE, TWELVE):
            self.assertEqual(caught(TooMany, goals_met, world, ["clear", "row"]), {"count": len(world)})
            self.assertEqual(caught(BadGoals, goals_met, world, ["row", "row"]), {"index": 1})
        self.assertIs(goals_met(plain_world([()] * 6, [0] * 6), ("row",)), True)
        self.assertIs(goals_met(THREE, ("clear", "table")), True)


class PoolTest(unittest.TestCase):
    def calls(self):
        return (find_mends, ()), (find_spoilers, ()), (mend_fault, ((),))

    def test_bad_pools(self):
        forms = [("field", 0), ["unfield", 9], ("method", None, None), ("base", 0, 0, 0), ("class", 0, 0, 0), ("unclass",)]
        bad = NO_SEQUENCES + ((), (None,), ("field",), ("field", 0, 0), ("Field", 0), ["class"], ("unclass", 0), (b"field", 0))
        for call, rest in self.calls():
            for goals in (("close",), None):
                for thing in NO_SEQUENCES + ((), [], forms + [("field", 0)], forms * 2, (None,) * 7):
                    self.assertEqual(caught(BadPool, call, DIAMOND, thing, goals, *rest), {"index": 0})
                for index in range(6):
                    for thing in bad:
                        pool = list(forms)
                        pool[index] = thing
                        self.assertEqual(caught(BadPool, call, DIAMOND, pool, goals, *rest), {"index": index})
                        pool[5] = None
                        self.assertEqual(caught(BadPool, call, DIAMOND, tuple(pool), goals, *rest), {"index": index})
            call(DIAMOND, forms, ("close",), *rest)

    def test_too_many_classes_for_rows(self):
        five = plain_world([()] * 5, [0] * 5)
        more, other = ("class", (), 0, ()), ("class", 9, 9, 9)
        for call, rest in self.calls():
            for world, pool, count in ((five, [more, other], 7), (five, [more] * 6, 11), (THREE, [("unclass",)], 7),
                                       (TWELVE, [("unclass",), other], 13)):
                self.assertEqual(caught(TooMany, call, world, pool, ("row", "clear"), *rest), {"count": count})
                self.assertEqual(caught(BadGoals, call, world, pool, ("row", "row"), *rest), {"index": 1})
                self.assertEqual(caught(BadPool, call, world, pool + [None], ("row", "row"), *rest),
                                 {"index": len(pool) if len(pool) < 6 else 0})
                call(world, pool, ("clear", "table", "close"), *rest)
            call(five, [more, ("unclass",)], ("row",), *rest)
        self.assertEqual(caught(TooMany, mend_fault, THREE, POOL, ("row",), None), {"count": 7})


class MendsTest(unittest.TestCase):
    def test_all_parts(self):
        rng = random.Random(2203)
        seen = {}
        for world in worlds(2204, 30):
            for goals in all_parts(GOALS)[1:]:
                if len(goals) in (1, 4) or rng.random() < 0.2:
                    pool = drawn_pool(rng, world, 4)
                    longer = len(world) + len([edit for edit in pool if edit[0] == "class"])
                    if longer < 7 or "row" not in goals:
                        self.check(world, pool, list(rng.sample(goals, len(goals))), seen)
        self.assertEqual(len(seen), 2 * 5 * 3)
        self.assertGreater(min(seen.values()), 4, seen)

    def check(self, world, pool, goals, seen):
        kept = repr(pool)
        for call, wanted in ((find_mends, True), (find_spoilers, False)):
            found = call(world, pool, goals)
            due = due_parts(world, pool, goals, wanted)
            self.assertEqual((found, as_tuples(found)), (due, found))
            what = "none" if not due else "empty" if due == ((),) else "some"
            if len(goals) in (1, 4):
                key = (wanted, goals[0] if len(goals) == 1 else "all", what)
                seen[key] = seen.get(key, 0) + 1
        self.assertEqual(repr(pool), kept)

    def test_six_edits(self):
        rng = random.Random(2205)
        most = 0
        for world in worlds(2206, 12):
            pool = []
            while len(pool) < 6:
                edit = random_edit(rng, world)
                if not isinstance(due_edited(world, edit), str) and edit[0] != "class":
                    pool.append(edit)
            for goals in (("close",), ("table", "clear"), GOALS):
                self.assertEqual(find_mends(world, pool, goals), due_parts(world, pool, goals, True))
                self.assertEqual(find_spoilers(world, pool, goals), due_parts(world, pool, goals, False))
                most = max(most, *[len(part) for part in ((),) + find_mends(world, pool, goals)])
        self.assertGreater(most, 1)

    def test_parts_that_can_be_made_without_their_first_ones(self):
        # The edit 1 needs the edit 0, the edit 2 is refused behind it.
        world = plain_world([(), (), (), (0, 1), (1, 2)], [1, 1, 1, 0, 0])
        pool = [("class", (0,), 0, ()), ("base", 5, 2, 0), ("unclass",), ("class", (2, 0), 0, ())]
        self.assertEqual(find_spoilers(world, pool, ("close",)), due_parts(world, pool, ("close",), False))
        self.assertEqual(find_spoilers(world, pool, ("close",)), ((3,), (0, 1)))
        self.assertEqual(find_mends(world, pool, ("close",)), ((),))

    def test_twelve_classes(self):
        pool = [("field", 0), ("class", (), 0, ()), ("unclass",), ("unfield", 3), ("base", 5, 0, 1), ("unbase", 5, 4)]
        self.assertEqual(find_mends(TWELVE, pool, ["close", "table", "clear"]), ((),))
        self.assertEqual(find_spoilers(TWELVE, pool, ["close", "table", "clear"]), ())


class FaultTest(unittest.TestCase):
    def due(self, world, pool, goals, part):
        made = due_made(world, pool, part)
        if made is None:
            return "edit"
        if not due_met(made, goals):
            return "goal"
        return None if part in due_parts(world, pool, goals, True) else "spare"

    def test_drawn(self):
        rng = random.Random(2207)
        seen = {}
        for world in worlds(2208, 25):
            goals = rng.choice((("close",), ("table",), ("clear",), ["row"], ("close", "clear"), GOALS))
            pool = [edit for edit in drawn_pool(rng, world, 4) if edit[0] != "class"] or POOL
            for part in all_parts(range(len(pool))):
                due = self.due(world, pool, goals, part)
                seen[due] = seen.get(due, 0) + 1
                self.assertEqual(mend_fault(world, pool, goals, rng.choice((list, tuple))(part)), due)
        self.assertEqual(len(seen), 4)
        self.assertGreater(min(seen.values()), 20)

    def test_form(self):
        bad = NO_SEQUENCES + ((3,), (-1,), (0, 0), [1, 0], (0, 2, 1), (True,), (0, True), (1.0,), ("0",), ([0],), (None,),
                              (0, 1, 2, 3), (SAME,))
        for thing in bad:
            self.assertEqual(mend_fault(NONE_MET, POOL, ("close",), thing), "form")

    def test_by_hand(self):
        def row(pool, goals):
            return [mend_fault(NONE_MET, pool, goals, part) for part in all_parts(range(len(pool)))]
        self.assertEqual(row(POOL, ["close"]), ["goal", None, "goal", "goal", "spare", "spare", "goal", "spare"])
        pool = [("unmethod", 0, 0), ("unmethod", 0, 0), ("unmethod", 1, 0), ("unbase", 3, 0)]
        self.assertEqual(find_mends(NONE_MET, pool, ["clear"]), ((0, 2), (1, 2)))
        self.assertEqual(mend_fault(NONE_MET, pool, ["clear"], [0, 2, 3]), "spare")
        self.assertEqual(mend_fault(NONE_MET, pool, ["clear"], (0, 1)), "edit")
        self.assertEqual(mend_fault(NONE_MET, pool, ["clear"], (0, 1, 2)), "edit")
        self.assertEqual(mend_fault(NONE_MET, pool, ["clear"], (0, 3)), "goal")
        self.assertEqual(mend_fault(DIAMOND, pool, ["close"], ()), None)


class LawsTest(unittest.TestCase):
    """[10.5]: what edits change, and what they never do."""

    def changes(self, seed, words):
        """For each goal how it was and how it is behind an edit of one of these forms, with how often."""
        rng = random.Random(seed)
        seen = {}
        for world in worlds(seed, 120):
            for _ in range(30):
                edit = random_edit(rng, world)
                later = due_edited(world, edit)
                if edit[0] in words and not isinstance(later, str):
                    for goal in GOALS[:3] if len(later) > 6 else GOALS:
                        key = (goal, goals_met(world, [goal]), goals_met(later, [goal]))
                        seen[key] = seen.get(key, 0) + 1
        return {key for key in seen if key[1] != key[2]}

    def test_a_class(self):
        found = self.changes(2301, ("class",))
        self.assertEqual({after for _, _, after in found}, {False})
        self.assertIn(("close", True, False), found)
        self.assertNotIn(("close", True, False), self.changes(2302, ("unclass",)))

    def test_a_field(self):
        self.assertEqual(self.changes(2303, ("field",)), {("close", True, False)})
        self.assertEqual(self.changes(2304, ("unfield",)), {("close", False, True)})

    def test_a_method(self):
        found = self.changes(2305, ("method", "unmethod"))
        self.assertEqual(found, {("table", True, False), ("table", False, True), ("clear", True, False),
                                 ("clear", False, True)})

    def test_a_base(self):
        found = self.changes(2306, ("base",)) | self.changes(2307, ("unbase",))
        self.assertEqual(found, {(goal, one, not one) for goal, one in itertools.product(GOALS, (True, False))})
        self.assertLessEqual({("close", True, False), ("close", False, True)}, self.changes(2308, ("base",)))

    def test_no_mend_for_close_has_a_field(self):
        rng = random.Random(2309)
        mends = 0
        for world in worlds(2310, 60):
            pool = [edit for edit in drawn_pool(rng, world) if edit[0] != "unfield"] + [("field", 0)]
            for part in find_mends(world, pool[-6:], ["close"]):
                self.assertNotIn("field", [pool[-6:][index][0] for index in part])
                mends += part != ()
        self.assertGreater(mends, 10)


if __name__ == "__main__":
    unittest.main()

"""[7.6], [7.7]: names that kinds are let to define."""

import itertools
import random
import unittest

from headamid.definers import two_answers
from headamid.errors import BadGiven, BadLets, NotKept
from headamid.kinds import KindRing, Kinds, Sides, kept_fault, kind_sides, ring_world
from headamid.layings import close_fault
from headamid.naming import (
    NotLet, TwoKinds, check_lets, lets_fault, naming_fault, naming_world, table_kinds, table_ring_world,
)
from headamid.rings import OddRing
from headamid.tables import entry_world, table_laid
from headamid.worlds import World
from tests.samples import NO_SEQUENCES, SAME, caught, kept_world, told
from tests.test_kinds import ALL_KINDS

TWO = Kinds(2, [(0, 1)])
BARE = Kinds(3, [(1, 0), (2, 0), (1, 2)], [0])
NO_LETS = ((), (), (), (), (), ())


def drawn_lets(rng, kinds, most=3):
    """Lets in which each kind is let a few names."""
    rows = [[] for _ in range(6)]
    for kind in range(kinds.many):
        for name in rng.sample(range(6), rng.randint(0, most)):
            rows[name].append(kind)
    for row in rows:
        rng.shuffle(row)
    return rng.choice((list, tuple))(rng.choice((list, tuple))(row) for row in rows)


def parted_lets(rng, kinds):
    """Lets in which no two joined kinds are let one name, often."""
    rows = [[] for _ in range(6)]
    for kind in rng.sample(range(kinds.many), kinds.many):
        free = [name for name in range(6) if not any(
            (min(kind, k), max(kind, k)) in kinds.joined for k in rows[name])]
        for name in rng.sample(free, min(len(free), rng.randint(0, 2))):
            rows[name].append(kind)
    return rows


def let_world(rng, kinds, lets, classes):
    """A world that keeps the kinds and the lets, and its kinds."""
    world, given = kept_world(rng, kinds, classes, 1)
    entries = []
    for entry, kind in zip(world, given):
        names = [name for name in range(6) if kind in lets[name]]
        entries.append((entry[0], entry[1], rng.sample(names, min(len(names), rng.randint(0, 3)))))
    return World(entries), given


def due_naming_fault(kinds, lets):
    for name, (first, second) in itertools.product(range(6), kinds.joined):
        if first in lets[name] and second in lets[name]:
            return name, first, second
    return None


def fault_row(fault):
    return fault and tuple(told(fault).values())


class LetsTest(unittest.TestCase):
    def test_checked(self):
        lets = ([1, 0], (), [2], (0, 2, 1), [], (1,))
        due = ((0, 1), (), (2,), (0, 1, 2), (), (1,))
        for row in (lets, list(lets)):
            self.assertEqual(check_lets(BARE, row), due)
            self.assertEqual({type(item) for item in (check_lets(BARE, row), *check_lets(BARE, row))}, {tuple})
        self.assertEqual(lets, ([1, 0], (), [2], (0, 2, 1), [], (1,)))

    def calls(self):
        """The functions that check the lets, with what comes ahead of these."""
        world, given = World([((), 1, ())]), (1,)
        return ((check_lets, (BARE,)), (naming_fault, (BARE,)), (naming_world, (BARE,)), (table_kinds, (BARE,)),
                (table_ring_world, (BARE,)), (lets_fault, (world, BARE, given)))

    def test_spoiled_at_each_place(self):
        bad = NO_SEQUENCES + ((0, 0), [1, 2, 1], (3,), [-1], (True,), (False, 1), (1.0,), (None,), ("0",), ([0],), (SAME,))
        for call, things in self.calls():
            for index in range(6):
                for thing in bad:
                    lets = [[0], (1,), [], (2, 1), (), [0]]
                    lets[index] = thing
                    self.assertEqual(caught(BadLets, call, *things, lets), {"index": index})
                    lets[5] = None
                    self.assertEqual(caught(BadLets, call, *things, tuple(lets)), {"index": index})

    def test_no_sequence_of_six(self):
        for call, things in self.calls():
            for thing in NO_SEQUENCES + ((), [], ((),) * 5, [[]] * 7, NO_LETS[:5], NO_LETS + ((),), (None,) * 5):
                self.assertEqual(caught(BadLets, call, *things, thing), {"index": 0})

    def test_first_class_and_its_least_name(self):
        rng = random.Random(1301)
        faults = 0
        for kinds in rng.sample(ALL_KINDS, 250):
            lets = drawn_lets(rng, kinds)
            world, given = kept_world(rng, kinds, 6, 1, methods=True)
            due = [(c, name) for c in range(len(world)) for name in world.methods[c] if given[c] not in lets[name]]
            found = lets_fault(world, kinds, rng.choice((list, tuple))(given), lets)
            self.assertEqual(fault_row(found), min(due) if due else None)
            if found is not None:
                faults += 1
                self.assertIs(type(found), NotLet)
                self.assertEqual(list(told(found)), ["cls", "name"])
            world, given = let_world(rng, kinds, lets, 6)
            self.assertIsNone(lets_fault(world, kinds, given, lets))
        self.assertGreater(faults, 100)

    def test_refused_in_order(self):
        world = World([((), 1, (0,)), ((), 0, (1,)), ((0, 1), 0, ())])
        for thing in NO_SEQUENCES + ((0, 0), (0, 1, 0, 1)):
            self.assertEqual(caught(BadGiven, lets_fault, world, TWO, thing, None), {"index": 0})
        for index in range(3):
            for thing in (2, -1, True, None, 1.0, "0", SAME):
                given = [0, 0, 0]
                given[index] = thing
                self.assertEqual(caught(BadGiven, lets_fault, world, TWO, given, None), {"index": index})
        self.assertEqual(caught(BadLets, lets_fault, world, TWO, (0, 0, 0), NO_LETS[:4] + ((0, 2), ())), {"index": 4})
        self.assertEqual(caught(NotKept, lets_fault, world, TWO, (0, 0, 0), NO_LETS),
                         {"cls": 2, "first": 0, "second": 1, "what": "line"})
        self.assertEqual(caught(NotKept, lets_fault, world, Kinds(2, [(0, 1)], [0]), [0, 1, 0], NO_LETS),
                         {"cls": 0, "first": 0, "second": 0, "what": "bare"})
        self.assertEqual(told(lets_fault(world, TWO, (0, 1, 0), NO_LETS)), {"cls": 0, "name": 0})
        self.assertEqual(told(lets_fault(world, TWO, (0, 1, 0), ((1, 0), [0]) + NO_LETS[2:])), {"cls": 1, "name": 1})


class NamingTest(unittest.TestCase):
    def test_fault_and_world(self):
        rng = random.Random(1302)
        seen = {True: 0, False: 0}
        for kinds in rng.sample(ALL_KINDS, 500):
            lets = rng.choice((drawn_lets, parted_lets))(rng, kinds)
            due = due_naming_fault(kinds, lets)
            found = naming_fault(kinds, lets)
            self.assertEqual(fault_row(found), due)
            seen[due is None] += 1
            if due is None:
                self.assertIsNone(naming_world(kinds, lets))
                continue
            self.assertIs(type(found), TwoKinds)
            self.assertEqual(list(told(found)), ["name", "first", "second"])
            world, given = naming_world(kinds, lets)
            name, first, second = due
            self.assertEqual(world, World([((), 0, (name,)), ((), 0, (name,)), ((0, 1), 0, ())]))
            self.assertEqual((given, type(naming_world(kinds, lets))), ((first, second, first), tuple))
            self.assertIsNone(kept_fault(world, kinds, given))
            self.assertIsNone(lets_fault(world, kinds, given, lets))
            self.assertEqual(two_answers(world), ((2, name),))
        self.assertGreater(min(seen.values()), 100)

    def test_bare_kinds_count(self):
        self.assertEqual(told(naming_fault(BARE, [[], [2], [2, 0], [1, 2], [], []])),
                         {"name": 2, "first": 0, "second": 2})
        self.assertIsNone(naming_fault(Kinds(3, [(0, 1)]), [[0, 2], [1, 2], [], [], [0], [1]]))
        four = Kinds(4, [(0, 3), (1, 2)])
        self.assertEqual(told(naming_fault(four, [[], [3, 2, 1, 0], [], [], [], [0, 3]])),
                         {"name": 1, "first": 0, "second": 3})

    def test_clear_exactly_without_a_fault(self):
        rng = random.Random(1303)
        seen = {True: 0, False: 0}
        for kinds in rng.sample(ALL_KINDS, 300) + [TWO] * 300:
            lets = rng.choice((drawn_lets, parted_lets))(rng, kinds)
            world, given = let_world(rng, kinds, lets, 12)
            clear = two_answers(world) == ()
            seen[clear] += 1
            if naming_fault(kinds, lets) is None:
                self.assertTrue(clear)
        self.assertGreater(min(seen.values()), 10)


class TableKindsTest(unittest.TestCase):
    def test_table_kinds(self):
        rng = random.Random(1304)
        for kinds in rng.sample(ALL_KINDS, 300):
            lets = drawn_lets(rng, kinds, 1)
            bare = [kind for kind in range(kinds.many) if not any(kind in row for row in lets)]
            self.assertEqual(table_kinds(kinds, lets), Kinds(kinds.many, kinds.joined, bare))

    def test_ring_world(self):
        rng = random.Random(1305)
        seen = {True: 0, False: 0}
        for kinds in rng.sample(ALL_KINDS, 500) + [Kinds.in_ring(5), Kinds.in_ring(3), BARE]:
            lets = drawn_lets(rng, kinds)
            laid = table_kinds(kinds, lets)
            found = kind_sides(laid)
            seen[type(found) is Sides] += 1
            if type(found) is Sides:
                self.assertIsNone(table_ring_world(kinds, lets))
                continue
            self.assertIs(type(found), KindRing)
            world, given = table_ring_world(kinds, lets)
            elder, due_given = ring_world(laid, found.ring)
            due = []
            for c, (bases, fields, _) in enumerate(elder):
                least = min([name for name in range(6) if due_given[c] in lets[name]], default=None)
                due.append((bases, 0, [least] if fields else []))
            self.assertEqual((world, given), (World(due), due_given))
            self.assertEqual((type(table_ring_world(kinds, lets)), type(given)), (tuple, tuple))
            self.assertIsNone(kept_fault(world, kinds, given))
            self.assertIsNone(lets_fault(world, kinds, given, lets))
            self.assertIs(type(table_laid(world)), OddRing)
        self.assertGreater(min(seen.values()), 50)

    def test_five_kinds_in_a_ring(self):
        lets = [[0, 2], (1, 3), [4], [4, 0], (), [1]]
        world, given = table_ring_world(Kinds.in_ring(5), lets)
        self.assertEqual(given, (0, 1, 2, 3, 4, 0, 1, 2, 3, 0))
        self.assertEqual(world.methods, ((0,), (1,), (0,), (1,), (2,), (), (), (), (), ()))
        self.assertEqual(world.bases[5:], ((0, 1), (1, 2), (2, 3), (3, 4), (0, 4)))
        self.assertIsNone(table_ring_world(Kinds.in_ring(5), [[0, 1, 2, 3]] + [()] * 5))

    def test_bare_kinds_may_define_names(self):
        lets = [[0], [1], [2], (), (), ()]
        world, given = table_ring_world(BARE, lets)
        self.assertEqual((world.owns, given[:3], world.methods[:3]), ((0,) * 6, (0, 1, 2), ((0,), (1,), (2,))))
        self.assertIs(type(kind_sides(BARE)), Sides)

    def test_close_tables_exactly_if_the_sides_are_there(self):
        rng = random.Random(1306)
        seen = {"ring": 0, "sides": 0}
        for kinds in rng.sample(ALL_KINDS, 300) + [Kinds.in_ring(3), BARE] * 150:
            lets = drawn_lets(rng, kinds)
            world, given = let_world(rng, kinds, lets, 12)
            found = table_laid(world)
            if type(kind_sides(table_kinds(kinds, lets))) is Sides:
                seen["sides"] += 1
                self.assertIsNone(close_fault(entry_world(world), found))
            else:
                seen["ring"] += type(found) is OddRing
        self.assertGreater(seen["sides"], 100)
        self.assertGreater(seen["ring"], 0)


if __name__ == "__main__":
    unittest.main()

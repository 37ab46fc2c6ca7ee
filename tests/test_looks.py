"""[4.5], [4.6]: hues by sides, by kinds and by layings, and classes that may still meet."""

import itertools
import random
import unittest

from headamid.declaring import Declaring, may_meet
from headamid.errors import BadGiven, BadHues, NoClass, NotKept, Unsafe
from headamid.kinds import KindRing, Kinds, kept_fault, kind_sides, side_rows
from headamid.ladders import Ladders, fewest_hues, hue_fault
from headamid.lasting import go_on_from
from headamid.layings import Laying
from headamid.looks import declared_ladders, hue_meeting, hues_by_kind, kind_hues, laying_hues, side_hues
from headamid.rings import all_layings, laid_world
from headamid.worlds import World
from tests.samples import NO_SEQUENCES, caught, kept_world, plain_world, random_worlds, told
from tests.test_kinds import ALL_KINDS

TWO = Kinds(2, [(0, 1)])
BARE = Kinds(3, [(0, 1), (1, 2), (0, 2)], [1])
RING = Kinds.in_ring(3)


def drawn(seed, many, classes=8):
    """Kinds with a world that keeps them and their kinds."""
    rng = random.Random(seed)
    for _ in range(many):
        kinds = rng.choice(ALL_KINDS)
        yield (kinds, *kept_world(rng, kinds, rng.randint(1, classes), 2))


def declared(kinds, world, given, sides=None):
    """A Declaring with these classes."""
    declaring = Declaring(kinds, sides)
    for entry, kind in zip(world, given):
        declaring.declare(entry[0], entry[1], kind=kind)
    return declaring


def continued(rng, kinds, entries, given, most):
    """A world that begins with these classes and keeps the kinds, with some drawn classes more."""
    entries, given = list(entries), list(given)
    for _ in range(most):
        kind = rng.randrange(kinds.many)
        bases = rng.sample(range(len(entries)), rng.randint(0, min(3, len(entries))))
        longer = entries + [(bases, 0, ())]
        if len(longer) < 13 and kept_fault(World(longer), kinds, given + [kind]) is None:
            entries, given = longer, given + [kind]
    return World(entries)


class SideHuesTest(unittest.TestCase):
    def test_drawn(self):
        rings = 0
        for kinds, world, given in drawn(301, 400):
            found = kind_sides(kinds)
            if isinstance(found, KindRing):
                rings += 1
                self.assertEqual(caught(Unsafe, side_hues, world, kinds, given), {"ring": found.ring})
                continue
            due = tuple(None if k in kinds.bare else ("up", "down").index(found.sides[k]) for k in given)
            hues = side_hues(world, kinds, list(given))
            self.assertEqual((hues, type(hues)), (due, tuple))
            self.assertIsNone(hue_fault(world, hues))
            ladders = Ladders(world, hues)
            for c, target in itertools.product(range(len(world)), repeat=2):
                if given[target] not in kinds.bare:
                    self.assertIs(ladders.one_look(c, target).answer, c == target or target in world.elders[c])
        self.assertGreater(rings, 20)

    def test_by_hand(self):
        world = plain_world([(), (), (0, 1), ()], [1, 0, 1, 0])
        self.assertEqual(side_hues(world, BARE, (0, 1, 0, 2)), (0, None, 0, 1))
        self.assertEqual(side_hues(world, TWO, (1, 0, 1, 1)), (1, 0, 1, 1))

    def test_refused_in_order(self):
        world = plain_world([(), (), (0, 1)], [1, 1, 0])
        for function in (side_hues, hues_by_kind):
            for kinds in (RING, TWO):
                for thing in NO_SEQUENCES + ((0, 1), (0, 1, 9), (0, 1, None)):
                    index = 2 if isinstance(thing, tuple) and len(thing) == 3 else 0
                    self.assertEqual(caught(BadGiven, function, world, kinds, thing), {"index": index})
                self.assertEqual(caught(NotKept, function, world, kinds, (0, 0, 0)),
                                 {"cls": 2, "first": 0, "second": 1, "what": "line"})
        self.assertEqual(caught(Unsafe, side_hues, world, RING, (0, 1, 0)), {"ring": (0, 1, 2)})
        self.assertEqual(hues_by_kind(world, RING, (0, 1, 0)), (0, 1, 0))


class DeclaredTest(unittest.TestCase):
    def test_ladders(self):
        rng = random.Random(302)
        for kinds, world, given in drawn(303, 200):
            rows = list(side_rows(kinds))
            if rows:
                sides = rng.choice(rows)
                declaring = declared(kinds, world, given, sides)
                ladders = declared_ladders(declaring)
                self.assertIs(type(ladders), Ladders)
                self.assertEqual(ladders.world, declaring.world_now)
                due = tuple(None if k in kinds.bare else ("up", "down").index(sides[k]) for k in given)
                self.assertEqual(ladders.hues, due)

    def test_ladders_go_on_for_classes_to_come(self):
        declaring = Declaring(TWO, ("down", "up"))
        declaring.declare((), 1, kind=0)
        ladders = declared_ladders(declaring)
        self.assertEqual(ladders.hues, (1,))
        declaring.declare((0,), 1, kind=1)
        self.assertEqual((ladders.hues, len(ladders.world)), ((1,), 1))
        self.assertEqual(declared_ladders(declaring).hues, (1, 0))

    def test_sides_of_a_declaring_that_goes_on(self):
        world = plain_world([(), ()], [1, 1])
        declaring = go_on_from(world, TWO, (0, 1), Laying(world, (-1, 1)))
        self.assertEqual(declared_ladders(declaring).hues, (1, 0))

    def test_nothing_declared(self):
        self.assertEqual(caught(NoClass, declared_ladders, Declaring(TWO)), {"cls": 0})
        for hues in ((), None, (0,)):
            self.assertEqual(caught(NoClass, hue_meeting, Declaring(TWO), hues), {"cls": 0})


class MeetingTest(unittest.TestCase):
    def test_first_couple(self):
        rng = random.Random(304)
        seen = {True: 0, False: 0}
        for kinds, world, given in drawn(305, 250):
            if isinstance(kind_sides(kinds), KindRing):
                continue
            declaring = declared(kinds, world, given)
            hues = tuple(rng.choice((None, 0, 1, 2, 7)) for _ in world)
            due = [(a, b) for a, b in itertools.combinations(range(len(world)), 2)
                   if hues[a] is not None and hues[a] == hues[b] and a not in world.elders[b]
                   and may_meet(declaring, a, b)]
            found = hue_meeting(declaring, list(hues))
            self.assertEqual(found, due[0] if due else None)
            seen[found is None] += 1
        self.assertGreater(min(seen.values()), 30)

    def test_hues_stay_right_exactly_if_none_meet(self):
        rng = random.Random(306)
        for kinds, world, given in drawn(307, 150, 5):
            if isinstance(kind_sides(kinds), KindRing):
                continue
            declaring = declared(kinds, world, given)
            hues = tuple(rng.choice((None, 0, 1, 2)) for _ in world)
            couple = hue_meeting(declaring, hues)
            if couple is None:
                longer = continued(rng, kinds, world.classes, given, 40)
                self.assertIsNone(hue_fault(longer, hues + (None,) * (len(longer) - len(world))))
            else:
                self.assertTrue(self.can_meet(kinds, world, given, couple))
                longer = world.with_class(couple, 0, ())
                self.assertIsNotNone(hue_fault(longer, hues + (None,)))

    def can_meet(self, kinds, world, given, couple):
        longer = world.with_class(couple, 0, ())
        return any(kept_fault(longer, kinds, given + (kind,)) is None for kind in range(kinds.many))

    def test_by_hand(self):
        declaring = declared(TWO, plain_world([(), (), (), (1,)], [1, 1, 1, 1]), (0, 1, 1, 1))
        self.assertEqual(hue_meeting(declaring, (0, 1, 1, 1)), None)
        self.assertEqual(hue_meeting(declaring, (3, 3, 3, 3)), (0, 1))
        self.assertEqual(hue_meeting(declaring, (3, None, 3, 3)), (0, 2))
        self.assertEqual(hue_meeting(declaring, (None, 3, 3, 3)), None)
        self.assertEqual(hue_meeting(declaring, (None,) * 4), None)
        self.assertEqual(hue_meeting(declaring, [3, None, None, 3]), (0, 3))

    def test_refused(self):
        declaring = declared(TWO, plain_world([(), ()], [1, 1]), (0, 1))
        for thing in NO_SEQUENCES + ((), (0,), (0, 0, 0)):
            self.assertEqual(caught(BadHues, hue_meeting, declaring, thing), {"index": 0})
        for thing in (8, -1, True, 1.0, "0"):
            self.assertEqual(caught(BadHues, hue_meeting, declaring, (None, thing)), {"index": 1})


class KindHuesTest(unittest.TestCase):
    def test_all_kinds(self):
        for kinds in ALL_KINDS:
            for k in range(1, kinds.many + 1):
                rows = [row for row in itertools.product(range(k), repeat=kinds.many)
                        if all(row[one] != row[other] for one, other in kinds.joined)]
                if rows:
                    break
            self.assertEqual(kind_hues(kinds), rows[0])

    def test_hues_by_kind(self):
        for kinds, world, given in drawn(308, 300):
            hues = hues_by_kind(world, kinds, list(given))
            self.assertEqual((hues, type(hues)), (tuple(kind_hues(kinds)[kind] for kind in given), tuple))
            self.assertIsNone(hue_fault(world, hues))

    def test_by_hand(self):
        self.assertEqual(kind_hues(Kinds.in_ring(5)), (0, 1, 0, 1, 2))
        self.assertEqual(kind_hues(BARE), (0, 1, 2))
        self.assertEqual(kind_hues(Kinds(1, [])), (0,))
        self.assertEqual(kind_hues(Kinds(3, [(1, 2)])), (0, 0, 1))


class LayingHuesTest(unittest.TestCase):
    def test_close_layings(self):
        for world in random_worlds(309, 60, 7, 2):
            for laying in itertools.islice(all_layings(world), 40):
                hues = laying_hues(world, laying)
                self.assertEqual((hues, type(hues)), (tuple(
                    None if not own else int(laying.place_of((c, 0)) < 0) for c, own in enumerate(world.owns)), tuple))
                self.assertIsNone(hue_fault(world, hues))

    def test_two_hues_are_enough_exactly_if_there_is_a_close_laying(self):
        rng = random.Random(310)
        seen = {True: 0, False: 0}
        for _ in range(150):
            many = rng.randint(1, 8)
            world = World([(rng.sample(range(c), rng.randint(0, min(c, 3))), rng.randint(1, 3), ())
                           for c in range(many)])
            close = isinstance(laid_world(world), Laying)
            self.assertEqual(max(fewest_hues(world)) <= 1, close)
            seen[close] += 1
        self.assertGreater(min(seen.values()), 8)

    def test_by_hand(self):
        world = plain_world([(), (0,), ()], [2, 0, 1])
        self.assertEqual(laying_hues(world, Laying(world, (1, -1, -1))), (0, None, 1))
        self.assertEqual(laying_hues(world, Laying(world, (-1, 1, 5))), (1, None, 0))
        self.assertEqual(told(hue_fault(world, (0, None, 1))), None)


if __name__ == "__main__":
    unittest.main()

"""[5.6] to [5.8]: blocked lots, the fewest classes with holes, floors."""

import itertools
import random
import unittest

from headamid.errors import BadLot, BadWeights, TooMany
from headamid.floors import Floor, Holed, blocked_lots, fewest_holed, floor_of_holes, is_blocked, ring_lot
from headamid.holes import least_holes, least_split
from headamid.layings import Laying
from headamid.rings import OddRing, laid_world
from headamid.ties import Tie
from tests.samples import (
    BOTH_SENSES, CHAIN, DIAMOND, NO_SEQUENCES, ONE, ROOTS, SAME, THREE, TWELVE, apart_layings, brute_holes, caught,
    plain_world, ringed_worlds, small_worlds, told,
)

SIX = plain_world([(), (), (), (0, 1), (1, 2), (0, 2)], [1, 1, 1, 0, 0, 0])
# Two lots of three without a common class cannot both be without holes.
FULL = plain_world([(), (), (), (0, 1), (1, 2), (0, 2)], [2, 1, 2, 0, 0, 0])
WORLDS = [world for world in [ONE, ROOTS, DIAMOND, SIX, FULL] + ringed_worlds(601, 60, 6, 4)
          + small_worlds(602, 25, 4) if len(world) < 7]


def all_lots(world):
    return [lot for size in range(len(world) + 1) for lot in itertools.combinations(range(len(world)), size)]


def holed_sets(world):
    """For each laying that is apart the set of the classes that have a hole."""
    return {frozenset(c for c, many in enumerate(holes) if many) for _, holes in apart_layings(world)}


def due_blocked(holed, lot):
    return all(set(lot) & classes for classes in holed)


def due_blocked_lots(world, holed):
    blocked = [lot for lot in all_lots(world) if due_blocked(holed, lot)]
    return tuple(lot for lot in blocked if not any(set(other) < set(lot) for other in blocked))


def drawn_weights(rng, world):
    return [rng.choice((0, 1, 1, 2, 5, 99)) for _ in world]


class BlockedTest(unittest.TestCase):
    def test_all_lots_of_small_worlds(self):
        rng = random.Random(603)
        seen = {True: 0, False: 0}
        for world in WORLDS + [THREE]:
            holed = holed_sets(world)
            for lot in all_lots(world):
                due = due_blocked(holed, lot)
                self.assertIs(is_blocked(world, list(lot)), due)
                self.assertTrue(not due or len(lot) > 2)
                seen[due] += 1
                if lot:
                    twice = list(lot) + [rng.choice(lot)]
                    rng.shuffle(twice)
                    self.assertIs(is_blocked(world, tuple(twice)), due)
            if len(world) < 7:
                self.assertEqual(blocked_lots(world), due_blocked_lots(world, holed))
        self.assertGreater(min(seen.values()), 60)

    def test_all_classes_are_blocked_exactly_if_there_is_an_odd_ring(self):
        seen = {True: 0, False: 0}
        for world in [BOTH_SENSES, CHAIN] + ringed_worlds(604, 60, 10, 7):
            ring = laid_world(world)
            self.assertIs(is_blocked(world, list(range(len(world)))), isinstance(ring, OddRing))
            seen[isinstance(ring, OddRing)] += 1
            if isinstance(ring, OddRing):
                lot = ring_lot(ring.ties)
                due = {c for tie in ring.ties for c in (tie.a, tie.b)}
                self.assertEqual((lot, type(lot)), (tuple(sorted(due)), tuple))
                self.assertIs(is_blocked(world, lot), True)
                self.assertIs(is_blocked(world, lot + (lot[0], 0)), True)
        self.assertGreater(min(seen.values()), 15)

    def test_heirs_need_not_be_in_the_lot(self):
        self.assertEqual(blocked_lots(SIX), due_blocked_lots(SIX, holed_sets(SIX)))
        self.assertIs(is_blocked(SIX, (0, 1, 2)), True)
        self.assertIs(is_blocked(SIX, (3, 4, 5)), True)
        self.assertIs(is_blocked(SIX, (0, 1, 3, 4)), False)
        self.assertIs(is_blocked(THREE, [3, 2, 1]), True)
        self.assertEqual(ring_lot(laid_world(SIX).ties), (0, 1, 2))

    def test_ring_lot_by_hand(self):
        ties = [Tie((0, 0), (1, 0), "unlike", 3, 5, 9), Tie((0, 0), (1, 0), "alike", 2, 5, 7)]
        self.assertEqual(ring_lot(ties), (2, 3, 5))
        self.assertEqual(ring_lot(tuple(ties) * 2), (2, 3, 5))
        self.assertEqual(ring_lot(()), ())

    def test_blocked_lots_by_hand(self):
        self.assertEqual(blocked_lots(ROOTS), ())
        self.assertEqual(blocked_lots(DIAMOND), ())
        lots = blocked_lots(SIX)
        self.assertEqual(lots[:2], ((0, 1, 2), (3, 4, 5)))
        self.assertEqual(list(lots), sorted(lots, key=lambda lot: (len(lot), lot)))
        self.assertEqual({type(lot) for lot in lots} | {type(lots)}, {tuple})

    def test_five_fields(self):
        worlds = [world for world in [FULL] + ringed_worlds(605, 60, 6, 5)
                  if len(world.all_fields) == 5 and isinstance(laid_world(world), OddRing)]
        for world in worlds[:8]:
            self.assertEqual(blocked_lots(world), due_blocked_lots(world, holed_sets(world)))
        self.assertGreater(len(worlds), 2)

    def test_refused_in_order(self):
        for world in (DIAMOND, TWELVE):
            for thing in NO_SEQUENCES:
                self.assertEqual(caught(BadLot, is_blocked, world, thing), {"index": 0})
            for index in range(3):
                for thing in (12, -1, True, False, 1.0, None, "0", (0,), [], {}, SAME):
                    lot = [3, 3, 0][:index] + [thing, None]
                    self.assertEqual(caught(BadLot, is_blocked, world, lot), {"index": index})
        self.assertEqual(caught(TooMany, is_blocked, TWELVE, ()), {"count": 12})
        eight = plain_world([(), (), ()], [3, 3, 2])
        self.assertEqual(caught(TooMany, is_blocked, eight, (0,)), {"count": 8})
        self.assertIs(is_blocked(plain_world([(), (), ()], [3, 3, 1]), (0,)), False)
        wide = plain_world([()] * 9 + [(0, 1), (1, 2), (0, 2)], [1, 1, 1, 1, 1, 1, 1] + [0] * 5)
        self.assertIs(is_blocked(wide, (0, 1, 2)), True)


class FewestTest(unittest.TestCase):
    def check_holed(self, world, weights, holed, found):
        due = min(sum(weights[c] for c in classes) for classes in holed)
        self.assertIs(type(found), Holed)
        self.assertEqual(list(told(found)), ["number", "classes", "laying"])
        self.assertEqual(found.number, due)
        holes = brute_holes(world, found.laying.places)
        self.assertEqual(found.classes, tuple(c for c, many in enumerate(holes) if many))
        self.assertEqual(sum(weights[c] for c in found.classes), found.number)
        self.assertEqual(found.laying.fields, world.all_fields)

    def check_floor(self, world, weights, blocked, found):
        packs = [()]
        for lot in blocked:
            packs += [pack + (lot,) for pack in packs if not any(set(lot) & set(other) for other in pack)]
        due = max(sum(min(weights[c] for c in lot) for lot in pack) for pack in packs)
        self.assertIs(type(found), Floor)
        self.assertEqual(list(told(found)), ["number", "lots"])
        self.assertEqual(found.number, due)
        self.assertIs(type(found.lots), tuple)
        self.assertTrue(all(type(lot) is tuple and lot in blocked for lot in found.lots))
        self.assertEqual(len({c for lot in found.lots for c in lot}), sum(len(lot) for lot in found.lots))
        self.assertEqual(sum(min(weights[c] for c in lot) for lot in found.lots), due)

    def test_all_layings_of_small_worlds(self):
        rng = random.Random(606)
        for world in WORLDS:
            holed = holed_sets(world)
            blocked = [lot for lot in all_lots(world) if due_blocked(holed, lot)]
            for weights in (drawn_weights(rng, world), [1] * len(world), [0] * len(world)):
                found, floor = fewest_holed(world, weights), floor_of_holes(world, weights)
                self.check_holed(world, weights, holed, found)
                self.check_floor(world, weights, blocked, floor)
                least = least_holes(world, weights).number
                self.assertLessEqual(floor.number, found.number)
                self.assertLessEqual(found.number, least)
                self.assertLessEqual(least, least_split(world, weights, world.all_fields[::2]).number)
                met = [lot for lot in all_lots(world) if all(set(lot) & set(other) for other in blocked)]
                self.assertEqual(found.number, min(sum(weights[c] for c in lot) for lot in met))
                if not blocked:
                    self.assertEqual(told(floor), {"number": 0, "lots": ()})
                    self.assertEqual((found.number, found.classes), (0, ()))

    def test_two_lots_without_a_common_class(self):
        found = floor_of_holes(SIX, [2, 3, 4, 9, 8, 7])
        self.assertEqual(found.number, 2 + 7)
        self.assertEqual(sorted(found.lots), [(0, 1, 2), (3, 4, 5)])
        self.assertEqual(told(floor_of_holes(ROOTS, [5, 5, 5])), {"number": 0, "lots": ()})

    def test_the_floor_can_be_below_the_least(self):
        # One of each of the two lots, but 0 and 4 leave (1, 2, 3, 5) whole.
        weights = [1, 5, 5, 5, 1, 5]
        self.assertEqual((floor_of_holes(SIX, weights).number, fewest_holed(SIX, weights).number), (5, 6))
        self.check_holed(SIX, weights, holed_sets(SIX), fewest_holed(SIX, weights))

    def test_worlds_within_the_bounds(self):
        for world in ringed_worlds(607, 30, 6, 5) + [plain_world([()] * 6, [1] * 5 + [0])]:
            weights = list(range(1, len(world) + 1))
            found, floor = fewest_holed(world, weights), floor_of_holes(world, weights)
            self.assertLessEqual(floor.number, found.number)
            self.assertLessEqual(found.number, least_holes(world, weights).number)
            self.assertEqual(found.number == 0, isinstance(laid_world(world), Laying))

    def test_bounds_and_refusals_in_order(self):
        seven = plain_world([()] * 7, [1] * 6 + [0])
        six_fields = plain_world([(), (), (), (0, 1), (1, 2), (0, 2)], [2, 2, 2, 0, 0, 0])
        for world, count in ((seven, 7), (TWELVE, 12), (six_fields, 6), (THREE, 7)):
            weights = [1] * len(world)
            self.assertEqual(caught(TooMany, blocked_lots, world), {"count": count})
            for function in (fewest_holed, floor_of_holes):
                self.assertEqual(caught(TooMany, function, world, weights), {"count": count})
                for thing in NO_SEQUENCES + ((),):
                    self.assertEqual(caught(BadWeights, function, world, thing), {"index": 0})
                self.assertEqual(caught(BadWeights, function, world, weights[1:]), {"index": len(world) - 1})
                self.assertEqual(caught(BadWeights, function, world, weights + [1]), {"index": len(world)})
                self.assertEqual(caught(BadWeights, function, world, [0, True] + weights[2:]), {"index": 1})


if __name__ == "__main__":
    unittest.main()

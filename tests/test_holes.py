"""[5.1] to [5.5], [5.9]: weights, holes, pressed layings, layings with the fewest holes."""

import itertools
import random
import unittest

from headamid.errors import BadFields, BadWeights, NotApart, TooMany
from headamid.holes import (
    Least, check_weights, class_holes, class_reaches, least_holes, least_split, pressed_laying, weighed_holes,
)
from headamid.layings import Laying, Shared, apart_fault
from headamid.rings import broken_tie, laid_world
from tests.samples import (
    CHAIN, DIAMOND, NO_SEQUENCES, ONE, ROOTS, SAME, THREE, TWELVE, apart_layings, brute_holes, caught, is_gapless,
    plain_world, random_worlds, ringed_worlds, small_worlds, told,
)

WORLDS = [ONE, ROOTS, CHAIN, THREE] + small_worlds(501, 25, 4) + ringed_worlds(502, 25, 7, 4)


def drawn_layings(seed, many, farthest):
    """Worlds with layings, apart and not, whose places are drawn."""
    rng = random.Random(seed)
    reach = [place for place in range(-farthest, farthest + 1) if place != 0]
    for world in random_worlds(seed, many, 7, 1) + random_worlds(seed + 1, many, 4, 2):
        yield world, Laying(world, [rng.choice(reach) for _ in world.all_fields])


def sums(holes, weights):
    return sum(many * weight for many, weight in zip(holes, weights))


def all_sets(world):
    fields = world.all_fields
    return [lot for size in range(len(fields) + 1) for lot in itertools.combinations(fields, size)]


def drawn_weights(rng, world):
    return [rng.choice((0, 0, 1, 1, 2, 5, 99)) for _ in world]


class WeightsTest(unittest.TestCase):
    def test_checked(self):
        self.assertEqual(check_weights(ROOTS, [0, 99, 7]), (0, 99, 7))
        self.assertIs(type(check_weights(ROOTS, [0, 99, 7])), tuple)

    def test_refused(self):
        laying = Laying(ROOTS, (1, 2, 3))
        calls = (check_weights, lambda world, row: weighed_holes(world, laying, row), least_holes,
                 lambda world, row: least_split(world, row, None))
        for call in calls:
            for thing in NO_SEQUENCES:
                self.assertEqual(caught(BadWeights, call, ROOTS, thing), {"index": 0})
            for index in range(3):
                for thing in (-1, 100, True, False, 1.0, None, "1", (1,), [], {}, SAME):
                    for rest in ((), (0,) * (2 - index), (thing,) * 5):
                        weights = (1, 0, 99)[:index] + (thing,) + rest
                        self.assertEqual(caught(BadWeights, call, ROOTS, weights), {"index": index})
            for weights, index in (((), 0), ((1,), 1), ([1, 2], 2), ((1, 2, 3, 4), 3), ([1, 2, 3, None, 5], 3)):
                self.assertEqual(caught(BadWeights, call, ROOTS, weights), {"index": index})


class HolesTest(unittest.TestCase):
    def test_reaches(self):
        for world, laying in drawn_layings(503, 60, 9):
            due = []
            for c in range(len(world)):
                cells = [0] + [laying.place_of(f) for f in laying.fields if f[0] == c or f[0] in world.elders[c]]
                due.append((-min(cells), max(cells)))
            self.assertEqual(class_reaches(world, laying), tuple(due))

    def test_holes_and_weighed_holes(self):
        rng = random.Random(504)
        apart = shared = 0
        for world, laying in drawn_layings(505, 120, 5):
            weights = drawn_weights(rng, world)
            holes = brute_holes(world, laying.places)
            if holes is not None:
                apart += 1
                self.assertEqual(class_holes(world, laying), tuple(holes))
                self.assertEqual(weighed_holes(world, laying, weights), sums(holes, weights))
                continue
            shared += 1
            fault = apart_fault(world, laying)
            self.assertIs(type(fault), Shared)
            for call in (class_holes, pressed_laying, lambda w, l: weighed_holes(w, l, None)):
                self.assertEqual(caught(NotApart, call, world, laying), told(fault))
        self.assertGreater(min(apart, shared), 30)

    def test_by_hand(self):
        laying = Laying(THREE, (1, 2, -1, 3))
        self.assertEqual(class_reaches(THREE, laying), ((0, 1), (0, 2), (1, 1), (0, 3), (1, 2), (1, 3), (0, 3)))
        self.assertEqual(class_holes(THREE, laying), (0, 0, 0, 1, 0, 1, 0))
        self.assertEqual(weighed_holes(THREE, laying, (9, 9, 9, 4, 9, 5, 9)), 9)
        far = Laying(ROOTS, (99, -99, 2))
        self.assertEqual(class_holes(ROOTS, far), (98, 99, 0))
        self.assertEqual(class_reaches(DIAMOND, Laying(DIAMOND, (1, 1, 1, 1, 1))), ((0, 1),) * 4)
        self.assertEqual((class_holes(ONE, Laying(ONE, ())), weighed_holes(ONE, Laying(ONE, ()), [7])), ((0,), 0))

    def test_fields_of_unlike_classes_may_share_a_place(self):
        self.assertEqual(class_holes(ROOTS, Laying(ROOTS, (2, 2, 1))), (1, 0, 0))


class PressedTest(unittest.TestCase):
    def test_pressed(self):
        pressed_more = 0
        for world, laying in drawn_layings(506, 200, 8):
            if apart_fault(world, laying) is not None:
                continue
            pressed = pressed_laying(world, laying)
            self.assertTrue(is_gapless(pressed.places))
            self.assertEqual(pressed.side_words(), laying.side_words())
            for (one, new), (other, another) in itertools.combinations(list(zip(laying.places, pressed.places)), 2):
                if (one > 0) == (other > 0):
                    self.assertEqual((one < other, one == other), (new < another, new == another))
            self.assertIsNone(apart_fault(world, pressed))
            for few, many in zip(class_holes(world, pressed), class_holes(world, laying)):
                self.assertLessEqual(few, many)
            pressed_more += pressed != laying
        self.assertGreater(pressed_more, 50)

    def test_by_hand(self):
        world = plain_world([(), (), (0,), (1,)], [1, 2, 1, 1])
        laying = Laying(world, (-9, 7, -4, 7, 99))
        self.assertEqual(pressed_laying(world, laying).places, (-2, 1, -1, 1, 2))
        self.assertEqual(pressed_laying(ONE, Laying(ONE, ())).places, ())
        self.assertEqual(pressed_laying(ROOTS, Laying(ROOTS, (-5, -5, -99))).places, (-1, -1, -2))


class LeastTest(unittest.TestCase):
    def check_least(self, world, weights, least):
        """The laying that is told is gapless and apart and has the number."""
        self.assertIs(type(least), Least)
        self.assertEqual(list(told(least)), ["number", "laying"])
        self.assertEqual(least.laying.fields, world.all_fields)
        self.assertTrue(is_gapless(least.laying.places))
        holes = brute_holes(world, least.laying.places)
        self.assertIsNotNone(holes)
        self.assertEqual(sums(holes, weights), least.number)

    def check_world(self, world, weights, beyond=0):
        layings = apart_layings(world, beyond)
        due = {}
        for places, holes in layings:
            above = tuple(f for f, place in zip(world.all_fields, places) if place > 0)
            due[above] = min(due.get(above, 10 ** 6), sums(holes, weights))
        for above in all_sets(world):
            least = least_split(world, weights, above[::-1])
            self.assertEqual(least.number, due[above])
            self.assertEqual({f for f in above}, {f for f in world.all_fields if least.laying.place_of(f) > 0})
            self.check_least(world, weights, least)
        least = least_holes(world, weights)
        self.assertEqual(least.number, min(due.values()))
        self.check_least(world, weights, least)

    def test_all_layings_of_small_worlds(self):
        rng = random.Random(507)
        for world in WORLDS:
            self.check_world(world, drawn_weights(rng, world))
        for world in small_worlds(508, 6, 3) + ringed_worlds(509, 6, 6, 3):
            self.check_world(world, drawn_weights(rng, world), 2)

    def test_five_fields(self):
        rng = random.Random(510)
        for world in [world for world in ringed_worlds(511, 40, 7, 5) if len(world.all_fields) == 5][:4]:
            self.check_world(world, drawn_weights(rng, world))

    def test_no_holes_exactly_if_there_is_a_close_laying(self):
        rng = random.Random(512)
        seen = {True: 0, False: 0}
        for world in WORLDS + ringed_worlds(513, 60, 9, 6):
            weights = [rng.randint(1, 99) for _ in world]
            close = isinstance(laid_world(world), Laying)
            self.assertEqual(least_holes(world, weights).number == 0, close)
            seen[close] += 1
            for above in all_sets(world)[::3]:
                sides = ["up" if f in above else "down" for f in world.all_fields]
                self.assertEqual(least_split(world, weights, above).number == 0, broken_tie(world, sides) is None)
        self.assertGreater(min(seen.values()), 15)

    def test_seven_fields_and_eight(self):
        rng = random.Random(514)
        wide = plain_world([(), (), (), (), (0, 1), (1, 2), (2, 3), (0, 3), (0, 2), (1, 3), (4, 6), (5, 7)],
                           [2, 2, 2, 1, 0, 0, 0, 0, 0, 0, 0, 0])
        chain = plain_world([()] + [(c,) for c in range(11)], [1] * 7 + [0] * 5)
        for world in (wide, chain, plain_world([()] * 7, [1] * 7)):
            weights = drawn_weights(rng, world)
            least = least_holes(world, weights)
            self.check_least(world, weights, least)
            splits = [least_split(world, weights, above) for above in all_sets(world)]
            self.assertEqual(least.number, min(split.number for split in splits))
            for split in splits[::9]:
                self.check_least(world, weights, split)
        eight = plain_world(wide.bases, [2, 2, 2, 1, 1] + [0] * 7)
        for world, count in ((eight, 8), (TWELVE, 12)):
            weights = [1] * len(world)
            self.assertEqual(caught(TooMany, least_holes, world, weights), {"count": count})
            self.assertEqual(caught(TooMany, least_split, world, weights, ()), {"count": count})

    def test_what_one_side_costs_does_not_hang_on_the_other(self):
        rng = random.Random(515)
        for world in WORLDS[:20]:
            weights = drawn_weights(rng, world)
            full = sum(w * sum(world.owns[k] for k in (c, *world.elders[c])) for c, w in enumerate(weights))
            cost = {above: least_split(world, weights, above).number + full for above in all_sets(world)}
            for above in cost:
                rest = tuple(f for f in world.all_fields if f not in above)
                self.assertEqual(cost[above], cost[rest])

    def test_refused_in_order(self):
        weights = [1, 1, 1]
        for thing in NO_SEQUENCES:
            self.assertEqual(caught(BadFields, least_split, ROOTS, weights, thing), {"index": 0})
            self.assertEqual(caught(BadWeights, least_split, ROOTS, [1, 1, 100], thing), {"index": 2})
        right = [(1, 1), [0, 0], (1, 0)]
        for index in range(4):
            for thing in ((0, 1), (2, 0), (True, 0), (0, False), (0, 0.0), (0,), (0, 0, 0), None, 0, "00", [], {},
                          SAME):
                self.assertEqual(caught(BadFields, least_split, ROOTS, weights, right[:index] + [thing, None]),
                                 {"index": index})
            for earlier in right[:index]:
                for same in (tuple(earlier), list(earlier)):
                    self.assertEqual(caught(BadFields, least_split, ROOTS, weights, right[:index] + [same]),
                                     {"index": index})
        ones = [1] * 12
        self.assertEqual(caught(BadFields, least_split, TWELVE, ones, ((0, 0), (0, 0))), {"index": 1})
        self.assertEqual(caught(BadWeights, least_split, TWELVE, ones[1:], None), {"index": 11})
        self.assertEqual(caught(BadWeights, least_holes, TWELVE, ones[1:]), {"index": 11})


class ExampleTest(unittest.TestCase):
    def test_example(self):
        laying = Laying(THREE, (1, 2, -1, 3))
        self.assertEqual(class_holes(THREE, laying), (0, 0, 0, 1, 0, 1, 0))
        self.assertEqual(least_holes(THREE, [1] * 7).number, 2)
        self.assertEqual(least_holes(THREE, [1, 1, 1, 0, 1, 1, 1]).number, 1)


if __name__ == "__main__":
    unittest.main()

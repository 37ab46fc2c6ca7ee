"""[2.5] to [2.7], [2.14], [0.3] to [0.6]: layings, cells, misfits."""

import itertools
import random
import unittest

from headamid.errors import BadLaying, BadWorld, NoClass, NoField
from headamid.layings import (
    Hole, Laying, Shared, apart_fault, cells_of, close_fault, extent_of, mirrored_laying, misfit_of,
)
from headamid.worlds import World
from tests.samples import (
    CHAIN, DIAMOND, EXAMPLE, NO_SEQUENCES, ONE, ROOTS, SAME, STRANGE, TWELVE, brute_layings, is_close, plain_world,
    random_worlds, small_worlds, told,
)


def random_layings(seed, many, farthest):
    """Couples of a world and a laying of it whose places are drawn."""
    rng = random.Random(seed)
    reach = [place for place in range(-farthest, farthest + 1) if place != 0]
    return [(world, Laying(world, [rng.choice(reach) for _ in world.all_fields]))
            for world in random_worlds(seed, many, 8, 2)]


class LayingTest(unittest.TestCase):
    def fault(self, world, places):
        with self.assertRaises(BadLaying) as caught:
            Laying(world, places)
        self.assertEqual(list(told(caught.exception)), ["index"])
        return caught.exception.index

    def test_attributes(self):
        laying = Laying(DIAMOND, [1, -1, 99, -99, 1])
        self.assertEqual(laying.fields, ((0, 0), (1, 0), (2, 0), (2, 1), (3, 0)))
        self.assertEqual(laying.places, (1, -1, 99, -99, 1))
        self.assertEqual(laying.side_words(), ("up", "down", "up", "down", "up"))
        empty = Laying(ONE, [])
        self.assertEqual((empty.fields, empty.places, empty.side_words()), ((), (), ()))

    def test_no_sequence_of_so_many(self):
        for thing in NO_SEQUENCES + ((), (1,), (1, 2), (1, 2, 3, 4), [0, 0], "123"):
            self.assertEqual(self.fault(ROOTS, thing), 0)
        self.assertEqual(self.fault(ONE, (1,)), 0)
        self.assertEqual(self.fault(ONE, None), 0)

    def test_no_place_at_every_index(self):
        for thing in (0, 100, -100, True, False, 1.0, None, "1", (1,), [], 10 ** 9, {1: 1}, SAME):
            for index in range(5):
                places = [1, 2, 3, 4, 5]
                places[index] = thing
                self.assertEqual(self.fault(DIAMOND, places), index)
                self.assertEqual(self.fault(DIAMOND, tuple(places[:index + 1]) + (0,) * (4 - index)), index)

    def test_places_of_fields(self):
        laying = Laying(DIAMOND, (1, -1, 99, -99, 3))
        for field, place in zip(laying.fields, laying.places):
            self.assertEqual(laying.place_of(field), place)
            self.assertEqual(laying.place_of(list(field)), place)
        for thing in STRANGE + ((0, 1), (True, 0), (0, False), (0, 0.0), [1.0, 0], (3, 0, 0), (4, 0), (2, True), "00"):
            with self.assertRaises(NoField) as caught:
                laying.place_of(thing)
            self.assertEqual(list(told(caught.exception)), ["field"])

    def test_equality(self):
        laying = Laying(ROOTS, (1, 2, -1))
        self.assertIs(laying == Laying(ROOTS, [1, 2, -1]), True)
        self.assertIs(laying != Laying(ROOTS, [1, 2, -1]), False)
        same_fields = plain_world([(), (0,), (), (1,)], [1, 2, 0, 0])
        self.assertIs(laying == Laying(same_fields, [1, 2, -1]), True)
        other_fields = plain_world([(), ()], [2, 1])
        for other in (Laying(ROOTS, (1, 2, 1)), Laying(ROOTS, (2, 1, -1)), Laying(other_fields, (1, 2, -1)), None, 0,
                      True, (1, 2, -1), laying.fields, ROOTS, object(), SAME):
            self.assertIs(laying == other, False)
            self.assertIs(laying != other, True)

    def test_later_changes_have_no_effect(self):
        places = [1, 2, -1]
        laying = Laying(ROOTS, places)
        places[0] = 7
        places.append(1)
        self.assertEqual(laying.places, (1, 2, -1))

    def test_mirrored(self):
        for world, laying in random_layings(8, 40, 99):
            mirrored = mirrored_laying(world, laying)
            self.assertEqual(mirrored.places, tuple(-place for place in laying.places))
            self.assertEqual(mirrored.fields, laying.fields)
            self.assertEqual(mirrored_laying(world, mirrored), laying)


class CellsTest(unittest.TestCase):
    def test_by_hand(self):
        laying = Laying(DIAMOND, (1, 3, -2, 3, -2))
        self.assertEqual([extent_of(DIAMOND, laying, c) for c in range(4)], [(0, 1), (0, 3), (-2, 3), (-2, 3)])
        self.assertEqual(cells_of(DIAMOND, laying, 0), ("head", ((0, 0),)))
        self.assertEqual(cells_of(DIAMOND, laying, 1), ("head", ((0, 0),), (), ((1, 0),)))
        self.assertEqual(cells_of(DIAMOND, laying, 2), (((2, 0),), (), "head", ((0, 0),), (), ((2, 1),)))
        self.assertEqual(cells_of(DIAMOND, laying, 3), (
            ((2, 0), (3, 0)), (), "head", ((0, 0),), (), ((1, 0), (2, 1)),
        ))

    def test_on_one_side(self):
        self.assertEqual(extent_of(ROOTS, Laying(ROOTS, (-2, -3, -2)), 1), (-3, 0))
        self.assertEqual(cells_of(ROOTS, Laying(ROOTS, (-2, -3, -2)), 1), (((1, 0),), ((1, 1),), (), "head"))
        self.assertEqual(cells_of(ROOTS, Laying(ROOTS, (-2, 3, 2)), 1), ("head", (), ((1, 1),), ((1, 0),)))

    def test_without_fields(self):
        self.assertEqual(extent_of(ROOTS, Laying(ROOTS, (5, 6, 7)), 2), (0, 0))
        self.assertEqual(cells_of(ROOTS, Laying(ROOTS, (5, 6, 7)), 2), ("head",))
        self.assertEqual(cells_of(ONE, Laying(ONE, ()), 0), ("head",))

    def test_farthest_places(self):
        laying = Laying(CHAIN, (99, -99, 1, 2))
        self.assertEqual(extent_of(CHAIN, laying, 2), (-99, 99))
        self.assertEqual(len(cells_of(CHAIN, laying, 2)), 199)

    def test_drawn_layings(self):
        for world, laying in random_layings(9, 60, 3):
            for c in range(len(world)):
                place = {f: laying.place_of(f) for f in laying.fields if f[0] == c or f[0] in world.elders[c]}
                least, greatest = min([0, *place.values()]), max([0, *place.values()])
                self.assertEqual(extent_of(world, laying, c), (least, greatest))
                due = tuple("head" if cell == 0 else tuple(f for f in sorted(place) if place[f] == cell)
                            for cell in range(least, greatest + 1))
                self.assertEqual(cells_of(world, laying, c), due)

    def test_refused(self):
        laying = Laying(DIAMOND, (1, 2, 3, 4, 5))
        for thing in (4, -1, True, 1.0, None, "0", [0]):
            for function in (extent_of, cells_of):
                with self.assertRaises(NoClass) as caught:
                    function(DIAMOND, laying, thing)
                self.assertIs(caught.exception.cls, thing)


class FaultTest(unittest.TestCase):
    def due_faults(self, world, laying):
        """The close_fault and the apart_fault that the cells show."""
        found = []
        for c in range(len(world)):
            cell = extent_of(world, laying, c)[0]
            for fields in cells_of(world, laying, c):
                if fields == ():
                    found.append((Hole, c, cell))
                elif fields != "head" and len(fields) > 1:
                    found.append((Shared, c, cell))
                cell += 1
        return found[:1], [fault for fault in found if fault[0] is Shared][:1]

    def row(self, fault):
        return [] if fault is None else [(type(fault), fault.cls, fault.cell)]

    def test_drawn_layings(self):
        for farthest in (1, 2, 4, 99):
            for world, laying in random_layings(farthest, 60, farthest):
                close, apart = self.due_faults(world, laying)
                self.assertEqual(self.row(close_fault(world, laying)), close)
                self.assertEqual(self.row(apart_fault(world, laying)), apart)
                self.assertEqual(close_fault(world, laying) is None, is_close(world, laying.places))
                if close == []:
                    self.assertIsNone(close_fault(world, mirrored_laying(world, laying)))

    def test_by_hand(self):
        def faults(places):
            laying = Laying(DIAMOND, places)
            return self.row(close_fault(DIAMOND, laying)) + self.row(apart_fault(DIAMOND, laying))
        self.assertEqual(faults((1, 2, -1, -2, 3)), [])
        self.assertEqual(faults((1, 2, -1, -2, 4)), [(Hole, 3, 3)])
        self.assertEqual(faults((2, 1, -1, -2, 3)), [(Hole, 0, 1)])
        self.assertEqual(faults((1, 2, 2, 3, -1)), [(Shared, 3, 2), (Shared, 3, 2)])
        self.assertEqual(faults((1, 1, -2, -2, 3)), [(Shared, 1, 1), (Shared, 1, 1)])
        self.assertEqual(faults((1, -2, -2, -1, 3)), [(Hole, 1, -1), (Shared, 3, -2)])
        self.assertEqual(faults((1, 2, -3, -3, 3)), [(Shared, 2, -3), (Shared, 2, -3)])

    def test_attributes_of_results(self):
        for result in (Shared(1, -2), Hole(1, -2)):
            self.assertEqual(told(result), {"cls": 1, "cell": -2})
        self.assertNotIsInstance(Shared(0, 1), tuple)


class MisfitTest(unittest.TestCase):
    def due_misfit(self, world, laying, bases):
        for a, b in itertools.combinations(sorted(bases), 2):
            for f in laying.fields:
                for g in laying.fields:
                    mine = f[0] == a or f[0] in world.elders[a]
                    other = g[0] == b or g[0] in world.elders[b]
                    if mine and other and f != g and laying.place_of(f) == laying.place_of(g):
                        return a, b
        return None

    def test_drawn_layings(self):
        rng = random.Random(10)
        for world, laying in random_layings(11, 80, 4):
            for _ in range(5):
                bases = rng.sample(range(len(world)), rng.randint(0, len(world)))
                due = self.due_misfit(world, laying, bases)
                self.assertEqual(misfit_of(world, laying, bases), due)
                self.assertEqual(misfit_of(world, laying, tuple(bases[::-1])), due)

    def test_by_hand(self):
        laying = Laying(EXAMPLE, (1, 2, -1, 2))
        self.assertEqual(misfit_of(EXAMPLE, laying, [3, 1]), (1, 3))
        self.assertEqual(misfit_of(EXAMPLE, laying, [5, 4, 1]), (1, 5))
        self.assertEqual(misfit_of(EXAMPLE, laying, [5, 4, 3, 2]), (3, 4))
        for bases in ((), [0], (1, 2), [2, 3], (0, 1, 2), (4, 1, 0, 2)):
            self.assertIsNone(misfit_of(EXAMPLE, laying, bases))

    def test_one_class_has_no_misfit_with_itself(self):
        laying = Laying(CHAIN, (1, 1, 1, 1))
        self.assertIsNone(misfit_of(CHAIN, laying, [2]))
        self.assertEqual(misfit_of(CHAIN, laying, [2, 0]), (0, 2))

    def test_refused(self):
        laying = Laying(DIAMOND, (1, 2, -1, -2, 3))
        for thing in NO_SEQUENCES + ((4,), (-1,), (0, 0), [1, 2, 1], (True,), [0, 1.0], (0, None), ([],), ("0",)):
            with self.assertRaises(BadWorld) as caught:
                misfit_of(DIAMOND, laying, thing)
            self.assertEqual(told(caught.exception), {"index": 4, "what": "base"})

    def test_twelve_classes(self):
        laying = Laying(TWELVE, list(range(1, 13)))
        self.assertIsNone(misfit_of(TWELVE, laying, list(range(12))))
        laying = Laying(TWELVE, list(range(1, 12)) + [5])
        self.assertEqual(misfit_of(TWELVE, laying, [11, 4, 9]), (4, 11))
        with self.assertRaises(BadWorld) as caught:
            misfit_of(TWELVE, laying, [12])
        self.assertEqual(told(caught.exception), {"index": 12, "what": "base"})

    def test_no_misfit_lets_the_class_be_added(self):
        rng = random.Random(12)
        for world in small_worlds(13, 25, 3):
            bases = rng.sample(range(len(world)), rng.randint(0, len(world)))
            many = len(world.all_fields)
            for own in (0, 1):
                longer = World(world.classes + ((bases, own, ()),))
                layings = brute_layings(longer)
                free = [row for row in brute_layings(world) if misfit_of(world, Laying(world, row), bases) is None]
                self.assertEqual(sorted({row[:many] for row in layings}), free)
                self.assertEqual(len(layings), (own + 1) * len(free))


if __name__ == "__main__":
    unittest.main()

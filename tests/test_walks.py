"""[9.8], [9.9]: rows read from the left and from the right."""

import random
import unittest

from headamid.errors import BadRow, NotApart
from headamid.heaps import Heap
from headamid.holes import class_reaches
from headamid.layings import Laying
from headamid.walks import walk_left, walk_right
from tests.samples import NO_SEQUENCES, ONE, ROOTS, SAME, THREE, caught, plain_world, random_worlds
from tests.test_heaps import apart_laying

PLACES = Laying(THREE, (1, 2, -1, 3))


def is_head(world, cell):
    return (type(cell) is tuple and len(cell) == 2 and cell[0] in ("head", "dropped") and type(cell[1]) is int
            and 0 <= cell[1] < len(world))


def objects_at(world, laying, row, place):
    """The whole objects that begin in a cell, each with the cell behind it: found by trying out all classes."""
    found = []
    for c, (below, above) in enumerate(class_reaches(world, laying)):
        stop = place + below + 1 + above
        cells = row[place:stop]
        if stop <= len(row) and is_head(world, cells[below]) and cells[below][1] == c:
            if sum(is_head(world, cell) for cell in cells) == 1:
                found.append(((place + below, c, cells[below][0] == "dropped"), stop))
    return found


def due_left(world, laying, row):
    """The objects from the first cell on, and the first cell behind them."""
    found, place = [], 0
    while place < len(row):
        whole = objects_at(world, laying, row, place)
        if not whole:
            break
        assert len(whole) == 1
        found.append(whole[0][0])
        place = whole[0][1]
    return found, place


def due_right(world, laying, row):
    """The objects from the last cell on, and the last cell ahead of them."""
    found, place = [], len(row) - 1
    while place >= 0:
        whole = [(at, thing) for at in range(place + 1) for thing, stop in objects_at(world, laying, row, at)
                 if stop == place + 1]
        if not whole:
            break
        assert len(whole) == 1
        found.append(whole[0][1])
        place = whole[0][0] - 1
    return found, place


class WalkTest(unittest.TestCase):
    def check(self, world, laying, row):
        """Both walks of a row, which is read or refused; whether it can be read."""
        left, behind = due_left(world, laying, row)
        right, ahead = due_right(world, laying, row)
        self.assertEqual(behind == len(row), ahead == -1)
        for thing in (tuple(row), list(row)):
            if behind == len(row):
                self.assertEqual(list(walk_left(world, laying, thing)), left)
                self.assertEqual(list(walk_right(world, laying, thing)), left[::-1])
                self.assertEqual(right, left[::-1])
            else:
                self.assertEqual(caught(BadRow, next, walk_left(world, laying, thing)), {"place": behind})
                self.assertEqual(caught(BadRow, next, walk_right(world, laying, thing)), {"place": ahead})
        return behind == len(row)

    def drawn_heap(self, rng, world, laying, many):
        heap = Heap(world, laying)
        made = [heap.make_object(rng.randrange(len(world))) for _ in range(many)]
        for address in made:
            for field in [f for f in world.all_fields if rng.random() < 0.5]:
                c = heap.class_at(address)
                if field[0] == c or field[0] in world.elders[c]:
                    heap.put_value(address, field, rng.choice((None, 1, 0, ("at", rng.choice(made)))))
        for address in made:
            if rng.random() < 0.3:
                heap.drop_object(address)
        return heap

    def test_cells_of_heaps(self):
        rng = random.Random(711)
        for world in [ONE, ROOTS, THREE] + random_worlds(712, 60, 7, 2):
            laying = apart_laying(rng, world)
            heap = self.drawn_heap(rng, world, laying, rng.randint(0, 8))
            self.assertTrue(self.check(world, laying, heap.cells))
            walked = [(address, c) for address, c, dropped in walk_left(world, laying, heap.cells) if not dropped]
            self.assertEqual(walked, [(address, heap.class_at(address)) for address in heap.addresses])
            for thing in walk_right(world, laying, heap.cells):
                self.assertEqual([type(item) for item in (thing, *thing)], [tuple, int, int, bool])

    def test_every_place_spoiled(self):
        rng = random.Random(713)
        seen = {True: 0, False: 0}
        for world in [ONE, ROOTS, THREE] + random_worlds(714, 15, 5, 2):
            laying = apart_laying(rng, world)
            row = list(self.drawn_heap(rng, world, laying, 4).cells)
            for place in range(len(row)):
                others = [0, None, ("dropped", rng.randrange(len(world))), ("head", len(world)), ("head", True)]
                for cell in others + [("head", c) for c in range(len(world))]:
                    seen[self.check(world, laying, row[:place] + [cell] + row[place + 1:])] += 1
                seen[self.check(world, laying, row[:place] + row[place + 1:])] += 1
                seen[self.check(world, laying, row[:place] + [None] + row[place:])] += 1
                seen[self.check(world, laying, row[:place])] += 1
                seen[self.check(world, laying, row[place:])] += 1
        self.assertGreater(min(seen.values()), 200)

    def test_drawn_rows(self):
        rng = random.Random(715)
        seen = {True: 0, False: 0}
        for world in [THREE, ROOTS] + random_worlds(716, 10, 3, 1):
            laying = apart_laying(rng, world, 2)
            for _ in range(120):
                row = [rng.choice((0, None, ("at", 1), ("head", rng.randrange(len(world))), ("dropped", 0)))
                       for _ in range(rng.randint(0, 6))]
                seen[self.check(world, laying, row)] += 1
        self.assertGreater(min(seen.values()), 50)

    def test_what_is_a_head(self):
        world = plain_world([(), ()], [0, 0])
        laying = Laying(world, ())
        for cell in (("head", 0), ("head", 1), ("dropped", 0), ("dropped", 1)):
            self.assertEqual(list(walk_left(world, laying, [cell])), [(0, cell[1], cell[0] == "dropped")])
            self.assertEqual(list(walk_right(world, laying, (cell,))), [(0, cell[1], cell[0] == "dropped")])
        for cell in (["head", 0], ("head", 2), ("head", -1), ("head", True), ("head", False), ("head", 0.0), ("head",),
                     ("head", 0, 0), ("Head", 0), (b"head", 0), (SAME, 0), ("head", SAME), ("head", None), ("at", 0),
                     (0, "head"), "head", None, 0, (), {}, SAME, ("head", [0])):
            for walk in (walk_left, walk_right):
                self.assertEqual(caught(BadRow, next, walk(world, laying, [cell])), {"place": 0})
                row = [("head", 0), cell, ("head", 1)]
                self.assertEqual(caught(BadRow, next, walk(world, laying, row)), {"place": 1})

    def test_it_does_not_matter_what_other_cells_hold(self):
        for thing in (SAME, ["head", 0], ("head", 9), {}, object(), "head", True, 1.5):
            row = [thing, ("head", 5), thing, thing, thing, ("dropped", 0), thing]
            self.assertEqual(list(walk_left(THREE, PLACES, row)), [(1, 5, False), (5, 0, True)])
            self.assertEqual(list(walk_right(THREE, PLACES, row)), [(5, 0, True), (1, 5, False)])

    def test_by_hand(self):
        row = (("head", 0), 0, None, ("head", 2), 7, ("head", 0))
        self.assertEqual(caught(BadRow, next, walk_left(THREE, PLACES, row)), {"place": 5})
        self.assertEqual(caught(BadRow, next, walk_right(THREE, PLACES, row)), {"place": 5})
        row = (0, 0, ("head", 2), 7, ("head", 0), 1)
        self.assertEqual(caught(BadRow, next, walk_left(THREE, PLACES, row)), {"place": 0})
        self.assertEqual(caught(BadRow, next, walk_right(THREE, PLACES, row)), {"place": 0})
        row = (("head", 0), 0, 0, 0, ("head", 2), 7, ("head", 0), 1)
        self.assertEqual(caught(BadRow, next, walk_left(THREE, PLACES, row)), {"place": 2})
        self.assertEqual(caught(BadRow, next, walk_right(THREE, PLACES, row)), {"place": 2})
        for walk in (walk_left, walk_right):
            self.assertEqual(list(walk(THREE, PLACES, ())), [])
            self.assertEqual(list(walk(THREE, PLACES, [])), [])

    def test_refused_in_order(self):
        for walk in (walk_left, walk_right):
            for thing in NO_SEQUENCES + ((1, 2), ()):
                self.assertEqual(caught(NotApart, lambda: list(walk(THREE, Laying(THREE, (1, 2, 2, 3)), thing))),
                                 {"cls": 4, "cell": 2})
            for thing in NO_SEQUENCES:
                self.assertEqual(caught(BadRow, lambda: list(walk(THREE, PLACES, thing))), {"place": 0})

    def test_the_row_is_read_when_the_first_item_is_asked_for(self):
        for walk in (walk_left, walk_right):
            row = [5]
            walking = walk(THREE, PLACES, row)
            self.assertIs(iter(walking), walking)
            row[:] = [("head", 0), 0, ("dropped", 0), 0]
            first = next(walking)
            row.clear()
            rest = list(walking)
            self.assertEqual(sorted([first] + rest), [(0, 0, False), (2, 0, True)])


class ExampleTest(unittest.TestCase):
    def test_example(self):
        heap = Heap(THREE, PLACES)
        self.assertEqual(heap.make_object(2), 1)
        self.assertEqual(heap.make_object(4), 4)
        self.assertEqual(len(heap.cells), 7)
        heap.put_value(1, (2, 0), ("at", 4))
        self.assertEqual(heap.cells, (("at", 4), ("head", 2), 0, 0, ("head", 4), 0, 0))
        self.assertEqual(heap.make_object(0), 7)
        heap.drop_object(1)
        self.assertEqual(list(walk_left(THREE, PLACES, heap.cells)), [(1, 2, True), (4, 4, False), (7, 0, False)])
        self.assertEqual(heap.compact_cells(), ((4, 1), (7, 4)))
        self.assertEqual(heap.cells, (0, ("head", 4), 0, 0, ("head", 0), 0))


if __name__ == "__main__":
    unittest.main()

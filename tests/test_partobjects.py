"""[6.3] to [6.6], [6.11]: the parts and cells of objects, ways and holders."""

import itertools
import random
import unittest

from headamid.elders import fields_of
from headamid.errors import BadStart, BadWay, NoClass, NoPart
from headamid.links import Links, flat_links
from headamid.partobjects import (
    Part, copies_of, holders_of, part_along, part_cells, parts_of, shift_along, size_of,
)
from tests.samples import CHAIN, DIAMOND, EXAMPLE, NO_SEQUENCES, SAME, caught, plain_world, random_worlds, told
from tests.test_links import EVERY, drawn_links, due_cut, due_ways, world_links

# Class 5 has class 0 along three ways, class 4 is met behind 3, and 0 may be noted late.
KNOT = plain_world([(), (0,), (0, 1), (1,), (3, 2), (4, 2, 0)], [1, 0, 2, 1, 1, 0])
NO_CLASSES = (4, -1, True, False, 0.0, None, "0", (0,), SAME)


def all_links(world):
    """The Links of a world for all sets of shared links."""
    row = world_links(world)
    for size in range(len(row) + 1):
        for shared in itertools.combinations(row, size):
            yield Links(world, shared)


def due_block(links, way):
    """The cells of the block of a part, by [6.4]."""
    c = way[-1]
    cells = []
    for base in links.world.bases[c]:
        if (c, base) not in links.shared:
            cells += due_block(links, way + (base,))
    return cells + [(way, "head")] + [(way, i) for i in range(links.world.owns[c])]


def due_notes(links, way, noted):
    """The bases of shared links in the order in which the walk of a block meets them."""
    for base in links.world.bases[way[-1]]:
        if (way[-1], base) in links.shared:
            if base not in noted:
                noted.append(base)
        else:
            due_notes(links, way + (base,), noted)


def due_cells(links, c):
    cells, noted, laid = due_block(links, (c,)), [], 0
    due_notes(links, (c,), noted)
    while laid < len(noted):
        cells += due_block(links, (noted[laid],))
        due_notes(links, (noted[laid],), noted)
        laid += 1
    return cells


def due_copies(links, c, target):
    """The closed form of [6.5]."""
    def doubled(one, other):
        if one == other:
            return 1
        return sum(doubled(base, other) for base in links.world.bases[one] if (one, base) not in links.shared)
    among = (c, *links.world.elders[c])
    return doubled(c, target) + sum(doubled(s, target) for s in {s for x, s in links.shared if x in among})


def drawn(seed, many, most_classes=7):
    rng = random.Random(seed)
    for world in random_worlds(seed, many, most_classes, 2):
        yield drawn_links(rng, world)


def samples():
    """Links with few and many shared links."""
    return list(all_links(DIAMOND)) + list(all_links(KNOT))[::7] + list(drawn(811, 80))


class PartsTest(unittest.TestCase):
    def check_object(self, links, c):
        cells = due_cells(links, c)
        parts = parts_of(links, c)
        self.assertEqual([(part.way, part.place) for part in parts],
                         [(way, place) for place, (way, what) in enumerate(cells) if what == "head"])
        self.assertIs(type(parts), tuple)
        self.assertEqual({type(part) for part in parts} | {type(part.way) for part in parts}, {Part, tuple})
        self.assertEqual(size_of(links, c), len(cells))
        numbers = {part.way: number for number, part in enumerate(parts)}
        self.assertEqual(part_cells(links, c), tuple((numbers[way], what) for way, what in cells))
        # One part for each unlike cut way.
        cut = {due_cut(links, way) for target in range(len(links.world)) for way in due_ways(links.world, c, target)}
        self.assertEqual(set(numbers), cut)
        for target in range(len(links.world)):
            found = copies_of(links, c, target)
            self.assertEqual(found, due_copies(links, c, target))
            self.assertEqual(found, sum(way[-1] == target for way in cut))

    def test_all_sets_of_shared_links_of_small_worlds(self):
        for links in list(all_links(DIAMOND)) + list(all_links(CHAIN)) + list(all_links(KNOT)):
            for c in range(len(links.world)):
                self.check_object(links, c)

    def test_drawn(self):
        for links in drawn(812, 120):
            for c in range(len(links.world)):
                self.check_object(links, c)

    def test_order_first_met(self):
        # Class 3 notes 2 ahead of 0, though it meets 0 within the doubled part of 1.
        world = plain_world([(), (), (0,), (0, 1), (2, 3)], [1, 1, 1, 1, 1])
        links = Links(world, [(4, 2), (3, 1), (2, 0), (3, 0)])
        self.assertEqual([part.way for part in parts_of(links, 4)], [(4, 3), (4,), (2,), (0,), (1,)])
        links = Links(world, [(4, 3), (3, 1), (2, 0), (3, 0)])
        self.assertEqual([part.way for part in parts_of(links, 4)], [(4, 2), (4,), (0,), (3,), (1,)])

    def test_by_hand(self):
        links = Links(DIAMOND, [(2, 0)])
        self.assertEqual([(part.way, part.place) for part in parts_of(links, 3)],
                         [((3, 1, 0), 0), ((3, 1), 2), ((3, 2), 4), ((3,), 7), ((0,), 9)])
        self.assertEqual(part_cells(links, 3), (
            (0, "head"), (0, 0), (1, "head"), (1, 0), (2, "head"), (2, 0), (2, 1), (3, "head"), (3, 0),
            (4, "head"), (4, 0)))
        self.assertEqual((size_of(links, 3), copies_of(links, 3, 0), copies_of(links, 0, 3)), (11, 2, 0))
        self.assertEqual(told(parts_of(Links(DIAMOND), 0)[0]), {"way": (0,), "place": 0})

    def test_many_parts(self):
        links = Links(EVERY)
        self.assertEqual(len(parts_of(links, 11)), 2 ** 11)
        self.assertEqual(size_of(links, 11), 2 ** 12)
        self.assertEqual(copies_of(links, 11, 0), 2 ** 10)

    def test_all_shared(self):
        for world in [DIAMOND, EXAMPLE, EVERY] + random_worlds(813, 60, 9, 2):
            links = flat_links(Links(world))
            for c in range(len(world)):
                parts = parts_of(links, c)
                self.assertEqual(sorted(part.way for part in parts), [(k,) for k in sorted((c, *world.elders[c]))])
                self.assertEqual(size_of(links, c), len(parts) + len(fields_of(world, c)))

    def test_refused(self):
        links = Links(DIAMOND)
        for thing in NO_CLASSES:
            for call in (parts_of, size_of, part_cells):
                self.assertIs(caught(NoClass, call, links, thing)["cls"], thing)
            self.assertIs(caught(NoClass, copies_of, links, thing, 99)["cls"], thing)
            self.assertIs(caught(NoClass, copies_of, links, 0, thing)["cls"], thing)
            self.assertIs(caught(NoClass, holders_of, links, thing, 99)["cls"], thing)

    def test_result(self):
        way = [3]
        self.assertIs(Part(way, 0).way, way)


class AlongTest(unittest.TestCase):
    def test_part_along_each_way_and_shifts(self):
        for links in samples():
            world = links.world
            for c in range(len(world)):
                place = {part.way: part.place for part in parts_of(links, c)}
                for target in range(len(world)):
                    for way in due_ways(world, c, target):
                        self.check_way(links, place, way)

    def check_way(self, links, place, way):
        part = part_along(links, list(way))
        cut = due_cut(links, way)
        self.assertEqual((type(part), part.way, part.place), (Part, cut, place[cut]))
        for at in range(len(way)):
            due = place[cut] - place[due_cut(links, way[:at + 1])]
            self.assertEqual(shift_along(links, way, at), due)

    def test_shifts_by_hand(self):
        links = Links(DIAMOND, [(2, 0)])
        self.assertEqual([shift_along(links, [3, 1, 0], at) for at in range(3)], [-7, -2, 0])
        self.assertEqual([shift_along(links, (3, 2, 0), at) for at in range(3)], [2, 5, 0])

    def test_refused_in_order(self):
        links = Links(CHAIN)
        for thing in NO_SEQUENCES + ((), (3,), (True,)):
            self.assertEqual(caught(BadWay, part_along, links, thing), {"index": 0})
            self.assertEqual(caught(BadWay, shift_along, links, thing, 99), {"index": 0})
        self.assertEqual(caught(BadWay, part_along, links, (2, 1, 1)), {"index": 2})
        self.assertEqual(caught(BadWay, shift_along, links, (2, 0), None), {"index": 1})
        for thing in (3, -1, True, False, 0.0, 1.0, None, "0", (0,), [], SAME):
            self.assertIs(caught(BadStart, shift_along, links, (2, 1, 0), thing)["at"], thing)


class HoldersTest(unittest.TestCase):
    def test_all_holders(self):
        for links in samples():
            for c in range(len(links.world)):
                ways = [part.way for part in parts_of(links, c)]
                for number, way in enumerate(ways):
                    found = holders_of(links, c, number)
                    due = [k for k, holder in enumerate(ways) if self.holds(links, holder, way)]
                    self.assertEqual((found, type(found)), (tuple(due), tuple))
                    if len(way) > 1:
                        self.assertEqual(found, (ways.index(way[:-1]),))
                    elif way == (c,):
                        self.assertEqual(found, ())
                    else:
                        self.assertEqual(found, tuple(k for k, holder in enumerate(ways)
                                                      if (holder[-1], way[0]) in links.shared))

    def holds(self, links, holder, way):
        """Whether a link of the holder's class leads straight to the part."""
        return any(due_cut(links, holder + (base,)) == way for base in links.world.bases[holder[-1]])

    def test_by_hand(self):
        links = Links(DIAMOND, [(1, 0), (2, 0)])
        self.assertEqual([part.way for part in parts_of(links, 3)], [(3, 1), (3, 2), (3,), (0,)])
        self.assertEqual([holders_of(links, 3, number) for number in range(4)], [(2,), (2,), (), (0, 1)])

    def test_no_part(self):
        links = Links(DIAMOND)
        for thing in (5, -1, True, False, 0.0, 1.0, None, "0", (0,), [], SAME):
            self.assertIs(caught(NoPart, holders_of, links, 3, thing)["number"], thing)
        self.assertEqual(holders_of(links, 3, 4), ())
        self.assertEqual(caught(NoPart, holders_of, links, 0, 1), {"number": 1})


if __name__ == "__main__":
    unittest.main()

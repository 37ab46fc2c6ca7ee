"""[6.1] to [6.3]: links, ways, cut ways."""

import itertools
import random
import unittest

from headamid.errors import BadLink, BadWay, BadWorld, NoClass, NoLink
from headamid.links import Links, check_way, cut_way, flat_links, ways_between
from headamid.worlds import World
from tests.samples import (
    CHAIN, DIAMOND, EXAMPLE, NO_SEQUENCES, ONE, ROOTS, SAME, TWELVE, caught, plain_world, random_worlds,
)

NO_LINKS = (None, True, 0, "10", (), (1,), (1, 0, 0), [0, 1], (0, 0), (1, 1), (1, -1), (3, 0), (4, 1), (-1, 0),
            (True, 0), (1, False), (1.0, 0), (1, 0.0), ((1,), 0), {}, {1: 0}, SAME, (1, None))
EVERY = World([(tuple(range(c))[::-1], 1, ()) for c in range(12)])


def world_links(world):
    return [(c, base) for c, bases in enumerate(world.bases) for base in bases]


def drawn_links(rng, world):
    """Links of a world some of which are shared, drawn."""
    share = rng.random()
    return Links(world, [link for link in world_links(world) if rng.random() < share])


def due_ways(world, c, target):
    """All ways, found by lengthening them one class at a time."""
    if c == target:
        return [(c,)]
    return [(c,) + way for base in world.bases[c] for way in due_ways(world, base, target)]


def due_cut(links, way):
    begin = 0
    for at in range(1, len(way)):
        if (way[at - 1], way[at]) in links.shared:
            begin = at
    return tuple(way[begin:])


class LinksTest(unittest.TestCase):
    def test_attributes(self):
        links = Links(DIAMOND, [[3, 2], (1, 0)])
        self.assertEqual((links.world, links.shared), (DIAMOND, ((1, 0), (3, 2))))
        self.assertEqual([type(thing) for thing in (links.shared, *links.shared)], [tuple] * 3)
        self.assertEqual((Links(DIAMOND).shared, Links(DIAMOND, []).shared), ((), ()))
        self.assertEqual(Links(world=ONE, shared=()).all_links, ())

    def test_all_links_in_the_order_of_the_bases(self):
        world = plain_world([(), (), (1, 0), (2, 0, 1)], [0] * 4)
        links = Links(world, [(3, 0)])
        self.assertEqual(links.all_links, ((2, 1), (2, 0), (3, 2), (3, 0), (3, 1)))
        for world in random_worlds(801, 60, 8, 1):
            self.assertEqual(Links(world).all_links, tuple(world_links(world)))

    def test_refused_shared_links(self):
        for thing in NO_SEQUENCES:
            self.assertEqual(caught(BadLink, Links, DIAMOND, thing), {"index": 0})
        right = [(3, 1), [1, 0], (2, 0)]
        for index in range(4):
            for thing in NO_LINKS:
                self.assertEqual(caught(BadLink, Links, DIAMOND, right[:index] + [thing, None]), {"index": index})
            for earlier in right[:index]:
                for same in (tuple(earlier), list(earlier)):
                    self.assertEqual(caught(BadLink, Links, DIAMOND, (*right[:index], same)), {"index": index})

    def test_equality(self):
        links = Links(DIAMOND, [(1, 0), (3, 2)])
        self.assertIs(links == Links(DIAMOND, ([3, 2], [1, 0])), True)
        self.assertIs(links != Links(DIAMOND, ([3, 2], [1, 0])), False)
        self.assertIs(links == Links(World(DIAMOND.classes), ((3, 2), (1, 0))), True)
        other_world = plain_world(DIAMOND.bases, [0] * 4)
        for other in (Links(DIAMOND), Links(DIAMOND, [(1, 0)]), Links(other_world, links.shared), None, DIAMOND, links.shared, (DIAMOND, links.shared), object(), SAME):
            self.assertIs(links == other, False)
            self.assertIs(links != other, True)

    def test_shared_links(self):
        rng = random.Random(802)
        for world in random_worlds(803, 60, 7, 1):
            links = drawn_links(rng, world)
            for c, base in world_links(world):
                self.assertIs(links.is_shared(c, base), (c, base) in links.shared)
                more = links.with_shared(c, base)
                self.assertEqual(more, Links(world, sorted({*links.shared, (c, base)})))
                self.assertIs(type(more), Links)
            self.assertEqual(flat_links(links), Links(world, world_links(world)))
            self.assertEqual(links.all_links, tuple(world_links(world)))

    def test_no_link(self):
        links = Links(DIAMOND, [(1, 0)])
        for c, base in ((0, 1), (3, 0), (4, 0), (-1, 0), (1, 1), (1, 2), (True, 0), (1, False), (1.0, 0), (None, None),
                        ("1", 0), ((1,), 0), (1, [0]), (SAME, 0), (1, SAME), (99, 99)):
            for call in (links.is_shared, links.with_shared):
                found = caught(NoLink, call, c, base)
                self.assertEqual(list(found), ["cls", "base"])
                self.assertIs(found["cls"], c)
                self.assertIs(found["base"], base)

    def test_with_class(self):
        rng = random.Random(804)
        for world in random_worlds(805, 60, 7, 1, methods=True):
            links = drawn_links(rng, world)
            bases = rng.sample(range(len(world)), rng.randint(0, len(world)))
            some = rng.sample(bases, rng.randint(0, len(bases)))
            before = (links.world, links.shared)
            longer = links.with_class(bases, 2, some)
            due = World(world.classes + ((bases, 2, ()),))
            self.assertEqual(longer, Links(due, links.shared + tuple((len(world), base) for base in some)))
            self.assertEqual(links.with_class(tuple(bases), 2), Links(due, links.shared))
            self.assertEqual((links.world, links.shared), before)
        self.assertEqual(Links(ONE).with_class((0,), 1, shared_bases=[0]).shared, ((1, 0),))

    def test_with_class_refused_in_order(self):
        links = Links(ROOTS)
        for thing in NO_SEQUENCES + ((3,), (0, 0), (True,), (-1,), (0.0,)):
            self.assertEqual(caught(BadWorld, links.with_class, thing, 9, None), {"index": 3, "what": "base"})
        for thing in (-1, 4, True, None, "1"):
            self.assertEqual(caught(BadWorld, links.with_class, (0, 1), thing, None), {"index": 3, "what": "fields"})
        self.assertEqual(caught(BadWorld, Links(TWELVE).with_class, None, 9, 9), {"index": 0, "what": "many"})
        for thing in NO_SEQUENCES:
            self.assertEqual(caught(BadLink, links.with_class, (0, 1), 3, thing), {"index": 0})
        for index in range(2):
            for thing in (2, -1, 3, True, False, 0.0, 1.0, None, "0", (0,), [], SAME):
                self.assertEqual(caught(BadLink, links.with_class, (1, 0), 0, [0, 1][:index] + [thing, None]),
                                 {"index": index})
        self.assertEqual(caught(BadLink, links.with_class, (0, 1), 0, (1, 0, 1)), {"index": 2})
        some = Links(DIAMOND, [(1, 0), (3, 2)])
        for shared_bases, index in (((2,), 0), ((0, 2), 1), ((0, 1, 0), 2), ((1, 0, None), 2), ([1, 0], None)):
            due = None if index is None else {"index": index}
            self.assertEqual(caught(BadLink, some.with_class, (0, 1), 0, shared_bases), due)

    def test_later_changes_have_no_effect(self):
        link = [1, 0]
        shared = [link]
        links = Links(DIAMOND, shared)
        link[0] = 2
        shared.append((3, 1))
        self.assertEqual(links.shared, ((1, 0),))


class WaysTest(unittest.TestCase):
    def test_all_ways_in_their_order(self):
        for world in [EXAMPLE, CHAIN] + random_worlds(806, 60, 8, 1):
            links = Links(world)
            for c, target in itertools.product(range(len(world)), repeat=2):
                self.assertEqual(list(ways_between(links, c, target)), due_ways(world, c, target))

    def test_by_hand(self):
        world = plain_world([(), (0,), (0,), (2, 0, 1)], [0] * 4)
        self.assertEqual(list(ways_between(Links(world), 3, 0)), [(3, 2, 0), (3, 0), (3, 1, 0)])
        self.assertEqual(list(ways_between(Links(world), 3, 3)), [(3,)])
        self.assertEqual(list(ways_between(Links(world), 1, 2)), [])
        self.assertEqual(list(ways_between(Links(world), 0, 3)), [])

    def test_many_ways(self):
        ways = list(ways_between(Links(EVERY), 11, 0))
        self.assertEqual(len(ways), 2 ** 10)
        self.assertEqual((ways[0], ways[-1]), (tuple(range(11, -1, -1)), (11, 0)))
        walking = ways_between(Links(EVERY), 11, 0)
        self.assertIs(iter(walking), walking)
        self.assertEqual([next(walking), next(walking)], ways[:2])

    def test_no_class(self):
        for thing in (4, -1, True, False, 0.0, None, "0", (0,), SAME):
            for c, target in ((thing, 99), (0, thing)):
                self.assertIs(caught(NoClass, lambda: list(ways_between(Links(DIAMOND), c, target)))["cls"], thing)


class CutTest(unittest.TestCase):
    def test_all_ways(self):
        rng = random.Random(807)
        for world in [DIAMOND, EXAMPLE] + random_worlds(808, 60, 7, 1):
            links = drawn_links(rng, world)
            for c, target in itertools.product(range(len(world)), repeat=2):
                for way in due_ways(world, c, target):
                    for thing in (way, list(way)):
                        self.assertEqual(check_way(links, thing), way)
                        self.assertIs(type(check_way(links, thing)), tuple)
                        self.assertEqual(cut_way(links, thing), due_cut(links, way))
                        self.assertIs(type(cut_way(links, thing)), tuple)

    def test_by_hand(self):
        links = Links(CHAIN, [(1, 0)])
        self.assertEqual([cut_way(links, way) for way in ((2, 1, 0), (2, 1), [1, 0], (0,))], [(0,), (2, 1), (0,), (0,)])
        links = Links(CHAIN, [(2, 1)])
        ways = ((2, 1, 0), (2, 1), [1, 0], (2,))
        self.assertEqual([cut_way(links, way) for way in ways], [(1, 0), (1,), (1, 0), (2,)])

    def test_refused(self):
        links = Links(CHAIN)
        for call in (check_way, cut_way):
            for thing in NO_SEQUENCES + ((), [], (3,), (-1, 0), (True,), (False,), [2.0, 1], (None,), ("2",), (SAME,)):
                self.assertEqual(caught(BadWay, call, links, thing), {"index": 0})
            right = (2, 1, 0)
            for index in (1, 2, 3):
                for thing in (2, 3, -1, True, False, 0.0, 1.0, None, "0", (0,), [], {}, SAME):
                    self.assertEqual(caught(BadWay, call, links, right[:index] + (thing, None)), {"index": index})
            self.assertEqual(caught(BadWay, call, links, (2, 0)), {"index": 1})


if __name__ == "__main__":
    unittest.main()

"""[10.7]: the example of part 10 of the document."""

import unittest

from headamid.layings import Laying
from headamid.mends import find_mends, goals_met
from headamid.rings import OddRing, laid_world
from headamid.staying import free_sides
from headamid.ties import alone_fields
from headamid.edits import edited_world
from headamid.worlds import World


class ExampleTest(unittest.TestCase):
    def test_example(self):
        world = World([((), 1, ()), ((0,), 1, ()), ((0,), 1, ()), ((0,), 1, ()), ((1, 2), 0, ()), ((2, 3), 0, ()),
                       ((3, 1), 0, ())])
        self.assertIsInstance(laid_world(world), OddRing)
        self.assertIs(goals_met(world, ["close"]), False)
        pool = [("base", 3, 1, 1), ("unbase", 6, 1), ("field", 4)]
        self.assertEqual(find_mends(world, pool, ["close"]), ((0,), (1,)))
        self.assertEqual(alone_fields(edited_world(world, pool[0]), 1, 3), ())
        shorter = world.without_last()
        laying = Laying(shorter, (1, 2, -1, 2))
        self.assertEqual([free_sides(shorter, laying, c) for c in range(6)],
                         [(), ("up",), ("down",), ("up",), ("up", "down"), ("up", "down")])


if __name__ == "__main__":
    unittest.main()

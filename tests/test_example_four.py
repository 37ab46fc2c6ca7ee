"""[4.10]: the example of part 4 of the document."""

import unittest

from headamid.kinds import Kinds
from headamid.ladders import apart_pairs, fewest_hues, floor_lot
from headamid.stretches import Bars, StretchRow, star_world, stretch_row
from tests.samples import plain_world, told


class ExampleTest(unittest.TestCase):
    def test_seven_classes(self):
        world = plain_world([(), (), (0,), (0, 1), (1,), (2, 3), (3, 4)], [0] * 7)
        self.assertEqual(apart_pairs(world), ((0, 1), (0, 4), (1, 2), (2, 3), (3, 4)))
        self.assertEqual(fewest_hues(world), (0, 1, 0, 1, 2, 0, 0))
        self.assertEqual(floor_lot(world), (0, 1))
        self.assertEqual(stretch_row(world), (0, 2, 5, 3, 6, 4, 1))

    def test_star(self):
        world, _ = star_world(Kinds(2, [(0, 1)]), 0, 1)
        self.assertIsInstance(stretch_row(world), Bars)
        self.assertEqual(max(fewest_hues(world)), 1)

    def test_five_classes(self):
        world = plain_world([(), (), (), (0, 1), (1, 2)], [0] * 5)
        self.assertEqual(stretch_row(world), (0, 3, 1, 4, 2))
        self.assertEqual(StretchRow(world, (0, 3, 1, 4, 2)).free_gaps((0, 2)), ())
        self.assertEqual(told(stretch_row(world.with_class((0, 2), 0, ()))), {"classes": (0, 1, 2)})


if __name__ == "__main__":
    unittest.main()

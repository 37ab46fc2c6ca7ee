"""[2.15]: the example of part 2 of the document."""

import unittest

from headamid.layings import cells_of
from headamid.rings import OddRing, all_layings, count_layings, laid_world
from headamid.ties import all_ties, base_ties, bound_classes, pieces_of
from tests.samples import EXAMPLE, tie_row


class ExampleTest(unittest.TestCase):
    def test_example(self):
        rows = [((1, 0), (2, 0), "unlike", 1, 2, 4), ((2, 0), (3, 0), "unlike", 2, 3, 5)]
        self.assertEqual([tie_row(tie) for tie in all_ties(EXAMPLE)], rows)
        self.assertEqual([tie_row(tie) for tie in base_ties(EXAMPLE)], rows)
        self.assertEqual(pieces_of(EXAMPLE)[0], ((0, 0),))
        self.assertNotIn(0, bound_classes(EXAMPLE))
        laying = laid_world(EXAMPLE)
        self.assertEqual(laying.fields, ((0, 0), (1, 0), (2, 0), (3, 0)))
        self.assertEqual(laying.places, (1, 2, -1, 2))
        self.assertEqual(cells_of(EXAMPLE, laying, 4), (((2, 0),), "head", ((0, 0),), ((1, 0),)))
        self.assertEqual(count_layings(EXAMPLE), 4)
        self.assertEqual(len(list(all_layings(EXAMPLE))), 4)

    def test_with_a_class_more(self):
        world = EXAMPLE.with_class((1, 3), 0, ())
        self.assertIn(((1, 0), (3, 0), "unlike", 1, 3, 6), [tie_row(tie) for tie in all_ties(world)])
        ring = laid_world(world)
        self.assertIsInstance(ring, OddRing)
        self.assertEqual(sorted(tie_row(tie) for tie in ring.ties), [tie_row(tie) for tie in all_ties(world)])
        self.assertEqual(count_layings(world), 0)


if __name__ == "__main__":
    unittest.main()

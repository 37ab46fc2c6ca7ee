"""[7.8]: the example of part 7 of the document."""

import unittest

from headamid.clearing import least_clear, lot_answers, missing_methods, unclear_in
from headamid.definers import answers_of
from headamid.layings import Laying, close_fault
from headamid.tables import all_entries, entry_world, table_row
from headamid.worlds import World


class ExampleTest(unittest.TestCase):
    def test_example(self):
        world = World([((), 0, (0,)), ((0,), 0, (0,)), ((0,), 0, (0, 3)), ((1, 2), 0, ()), ((3, 1), 0, ()),
                       ((4,), 0, (0,))])
        self.assertEqual([answers_of(world, c, 0) for c in (3, 4, 5)], [(1, 2), (1, 2), (5,)])
        self.assertEqual(unclear_in(world, (0, 1, 2, 5)), (3, 4))
        self.assertEqual(lot_answers(world, (0, 1, 2, 3, 5), 4), (3,))
        self.assertEqual(least_clear(world, (0, 1, 2, 5)), (0, 1, 2, 3, 5))
        self.assertEqual(missing_methods(world), ((3, 0),))
        self.assertEqual(all_entries(world), ((0, 0), (2, 3)))
        laying = Laying(entry_world(world), (1, 2))
        self.assertIsNone(close_fault(entry_world(world), laying))
        self.assertEqual(table_row(world, laying, 3), ("head", (((0, 0), (1, 2)),), (((2, 3), (2,)),)))


if __name__ == "__main__":
    unittest.main()

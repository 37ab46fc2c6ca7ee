"""The example of part 1 of the document, word for word."""

import doctest
import unittest

PART_ONE = """
>>> from headamid.worlds import World
>>> from headamid.elders import common_heirs, fields_of
>>> from headamid.worldtext import world_text
>>> world = World([((), 1, ()), ((0,), 1, (2,)), ((0,), 2, ()), ((2, 1), 0, (5, 2))])
>>> world.elders[3], common_heirs(world, 1, 2), fields_of(world, 2)
((0, 1, 2), (3,), ((0, 0), (2, 0), (2, 1)))
>>> world_text(world)
'1 ; 1 of 0 with 2 ; 2 of 0 ; 0 of 21 with 25'
"""


class ExampleTest(unittest.TestCase):
    def test_example(self):
        test = doctest.DocTestParser().get_doctest(PART_ONE, {}, "part 1", None, 0)
        self.assertEqual(doctest.DocTestRunner().run(test), (0, 6))


if __name__ == "__main__":
    unittest.main()

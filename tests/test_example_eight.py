"""The example of part 8 of the document, word for word."""

import unittest

from headamid.bycells import compile_program, machine_of, run_code
from headamid.layings import Laying
from headamid.programs import Program
from headamid.setups import Setup
from headamid.worlds import World


class ExampleTest(unittest.TestCase):
    def test_example(self):
        world = World([((), 1, (0,)), ((0,), 1, (0,)), ((0,), 1, ()), ((1, 2), 0, ())])
        setup = Setup(world, Laying(world, (1, 2, -1)), (1,), (0, 0, 1, 0))
        program = Program(world, [["make", 3, 1], ["put", 0, [1, 0], 5], ["call", 0, 0], ["test", 0, 2],
                                  ["get", 0, (1, 0)]])
        code = compile_program(setup, program)
        self.assertEqual(repr(code.steps), "(('make', 3), ('put', 0, 2, 5), ('call', 0, 1), ('test', 0, 1, 0, 2), "
                                           "('get', 0, 2))")
        row = machine_of(setup).rows[3]
        self.assertEqual(repr((row.places, row.table, row.ladders)),
                         "((-1, 1, 2), ((1, ('one', 1, 0, 2)),), ((0, (0, 1, 3)), (1, (2,))))")
        run = run_code(machine_of(setup), code)
        self.assertEqual(repr((run.results, run.objects, run.looks)),
                         "((0, 0, (1, 0, 6), True, 6), ((3, ((-1, 0), (1, 0), (2, 6))),), 2)")


if __name__ == "__main__":
    unittest.main()

"""[8.12]: programs that part a bad setup from a good one."""

import random
import unittest

from headamid.bycells import run_cells
from headamid.byname import run_names
from headamid.layings import Laying
from headamid.parting import parting_program
from headamid.programs import Program
from headamid.setups import Setup, setup_fault
from headamid.worlds import World
from tests.samples import (
    DIAMOND, ONE, as_tuples, drawn_setup, drawn_steps, good_rows, name_worlds, plain_world, random_worlds, told,
)

WORLDS = [ONE, DIAMOND] + name_worlds(1801, 120, 7, 2) + random_worlds(1802, 80, 9, 2, methods=True)


class PartingTest(unittest.TestCase):
    def check_shown(self, setup):
        """The setup has a fault, and its parting program shows it."""
        steps = parting_program(setup)
        self.assertEqual(as_tuples(steps), steps)
        self.assertIn(len(steps), (2, 3))
        program = Program(setup.world, steps)
        self.assertNotEqual(repr(run_names(setup.world, program).results), repr(run_cells(setup, program).results))

    def check_alike(self, rng, setup, many=3):
        """Drawn programs run alike by name and by cells."""
        for _ in range(many):
            program = Program(setup.world, drawn_steps(rng, setup.world, 24)[0])
            one, other = run_names(setup.world, program), run_cells(setup, program)
            self.assertEqual(repr(told(one)), repr(told(other)))

    def test_drawn_setups(self):
        rng = random.Random(1803)
        seen = {}
        for world in WORLDS:
            for _ in range(10):
                setup = drawn_setup(rng, world)
                fault = setup_fault(setup)
                seen[fault and fault.what] = seen.get(fault and fault.what, 0) + 1
                if fault is None:
                    self.assertIsNone(parting_program(setup))
                    self.check_alike(rng, setup)
                else:
                    self.check_shown(setup)
        self.assertEqual(len(seen), 4)
        self.assertGreater(min(seen.values()), 30)

    def test_good_setups_in_a_world_of_twelve(self):
        rng = random.Random(1804)
        for seed in range(20):
            world = random_worlds(1805 + seed, 1, 8, 2, methods=True)[0]
            while len(world) < 8:
                world = world.with_class(rng.sample(range(len(world)), rng.randint(0, 3) % len(world)), 1, (1,))
            setup = Setup(world, Laying(world, good_rows(rng, world)[0]), *good_rows(rng, world)[1:])
            while len(setup.world) < 12 and setup_fault(setup) is None:
                longer = setup.world.with_class((), 2, (0, 5))
                setup = Setup(longer, Laying(longer, setup.laying.places + (1, -1)), setup.table + (1, 2),
                              setup.hues + (0,))
            self.assertIsNone(setup_fault(setup))
            self.check_alike(rng, setup)

    def test_each_fault_and_two_at_once(self):
        world = World([((), 1, (1,)), ((), 2, (2, 3)), ((0, 1), 1, (1,))])
        bad = {"field": (1, 2, 1, 3), "table": (4, 5, 4), "hue": (6, 6, 0)}
        good = {"field": (1, 2, 3, -1), "table": (4, 5, 6), "hue": (6, 0, 0)}
        for first in bad:
            for second in bad:
                rows = {what: bad[what] if what in (first, second) else good[what] for what in bad}
                setup = Setup(world, Laying(world, rows["field"]), rows["table"], rows["hue"])
                self.assertEqual(setup_fault(setup).what, [what for what in bad if what in (first, second)][0])
                self.check_shown(setup)
        self.assertIsNone(parting_program(Setup(world, Laying(world, good["field"]), good["table"], good["hue"])))

    def test_entries_of_one_name_beside_another_one(self):
        # The view 2 has two entries of name 0: the one that shares its place is not its least.
        world = World([((), 0, (0,)), ((), 0, (0,)), ((0, 1), 0, (1,)), ((2,), 0, (5,))])
        for table in ((1, 2, 2, 3), (2, 1, 2, 3), (1, 2, 3, 2), (1, 1, 1, 1), (1, 2, 3, 3), (4, 4, 4, 1), (3, 1, 1, 1)):
            setup = Setup(world, Laying(world, ()), table, (0, 1, 0, 0))
            self.assertEqual(setup_fault(setup).what, "table")
            self.check_shown(setup)
        good = Setup(world, Laying(world, ()), (1, 1, 2, 3), (0, 1, 0, 0))
        self.assertIsNone(parting_program(good))
        self.check_alike(random.Random(1806), good, 30)

    def test_the_first_and_the_last_entry_of_a_place_have_one_name(self):
        world = World([((), 0, (0,)), ((), 0, (1,)), ((), 0, (0,)), ((2, 1, 0), 0, ())])
        setup = Setup(world, Laying(world, ()), (1, 1, 1), (0, 1, 2, 3))
        self.assertEqual(told(setup_fault(setup)), {"what": "table", "cls": 3, "at": 1})
        self.check_shown(setup)

    def test_three_classes_of_one_hue(self):
        rng = random.Random(1807)
        world = plain_world([(), (), (0,), (1, 2), (0,), (4, 3)], [0] * 6)
        for _ in range(200):
            setup = Setup(world, Laying(world, ()), (), [rng.randrange(2) for _ in world])
            if setup_fault(setup) is None:
                self.check_alike(rng, setup)
            else:
                self.check_shown(setup)


if __name__ == "__main__":
    unittest.main()

"""[8.1], [8.2]: programs and how they are checked."""

import copy
import random
import unittest

from headamid.errors import BadProgram
from headamid.programs import Program
from headamid.worlds import World
from tests.samples import DIAMOND, NO_SEQUENCES, SAME, as_tuples, caught, drawn_steps, name_worlds, random_worlds

# Class 3 has the elders 0, 1 and 2, class 4 is alone.
FIVE = World([((), 2, (0,)), ((0,), 1, (1, 4)), ((0,), 1, ()), ((2, 1), 0, (5,)), ((), 1, (2,))])
# The names 0 to 3 have the views 1, 0, 4 and 2.
BEGIN = [("make", 3, 1), ("view", 0, 0), ("take", 1, 4), ("take", 0, 2)]
RIGHT = BEGIN + [("test", 2, 3), ("put", 0, (1, 0), 5), ("get", 3, [0, 1]), ["call", 1, 0], ("call", 0, 4)]
NO_NUMBERS = (True, False, 1.0, 0.0, None, "0", "", b"0", (0,), [0], {}, SAME)


def fault(steps, world=FIVE):
    """The step and the word of the BadProgram that these steps raise, None if there is none."""
    found = caught(BadProgram, Program, world, steps)
    assert found is None or list(found) == ["step", "what"]
    return found and tuple(found.values())


class RightTest(unittest.TestCase):
    def test_drawn(self):
        rng = random.Random(1401)
        words = {}
        for world in [DIAMOND, FIVE] + name_worlds(1402, 60) + random_worlds(1403, 60, 8, 2, methods=True):
            for many in (0, 1, rng.randint(2, 23), 24):
                steps, views = drawn_steps(rng, world, many)
                for row in (steps, tuple(steps), [list(step) for step in steps], tuple(map(tuple, steps))):
                    program = Program(world, row)
                    self.assertEqual((program.steps, program.views, program.many), (as_tuples(steps), views, many))
                self.assertEqual(vars(program), {"steps": as_tuples(steps), "views": views, "many": many})
                self.check_kinds(program)
                for step in steps:
                    words[step[0]] = words.get(step[0], 0) + 1
        self.assertEqual(len(words), 7)
        self.assertGreater(min(words.values()), 100)

    def check_kinds(self, program):
        for row in (program.steps, program.views, *program.steps, *[step[2] for step in program.steps
                                                                    if step[0] in ("put", "get")]):
            self.assertIs(type(row), tuple)
        self.assertIs(type(program.many), int)

    def test_how_many(self):
        steps = [("make", 4, 4)] * 25
        self.assertEqual(fault(steps), (0, "many"))
        self.assertEqual(fault([None] * 25), (0, "many"))
        self.assertIsNone(fault(steps[:24]))
        self.assertEqual(Program(FIVE, steps[:24]).views, (4,) * 24)
        self.assertEqual(vars(Program(FIVE, ())), {"steps": (), "views": (), "many": 0})
        for thing in NO_SEQUENCES:
            self.assertEqual(fault(thing), (0, "many"))

    def test_views(self):
        program = Program(FIVE, RIGHT)
        self.assertEqual((program.views, program.many), ((1, 0, 4, 2), 9))
        self.assertEqual(program.steps[6:8], (("get", 3, (0, 1)), ("call", 1, 0)))

    def test_what_is_passed_in_stays(self):
        steps = [["make", 3, 1], ["put", 0, [1, 0], 7], ["view", 0, 0]]
        kept = copy.deepcopy(steps)
        program = Program(FIVE, steps)
        self.assertEqual(steps, kept)
        steps[1][2][0] = 0
        steps[0][1] = 1
        steps.append(None)
        self.assertEqual(program.steps, (("make", 3, 1), ("put", 0, (1, 0), 7), ("view", 0, 0)))


class FaultTest(unittest.TestCase):
    def refused(self, what, steps):
        """The last one of these steps behind the right beginning is refused with this word, at every place."""
        for begin in (BEGIN, RIGHT, BEGIN + [("test", 0, 0)] * 12):
            for step in steps:
                for row in (step, list(step)) if isinstance(step, tuple) else (step,):
                    self.assertEqual(fault(begin + [row]), (len(begin), what), step)
                    self.assertEqual(fault(tuple(begin) + (row, None, ("make", 9, 9))), (len(begin), what), step)

    def test_step(self):
        self.refused("step", NO_SEQUENCES)
        self.refused("step", [(), [], (None,), ("make",), ("make", 3), ("make", 3, 1, 0), ("view", 0), ("view", 0, 0, 0),
                              ("take", 0), ("take", 0, 0, 0), ("test", 0), ("test", 0, 0, 0), ("put", 0, (1, 0)),
                              ("put", 0, (1, 0), 0, 0), ("get", 0), ("get", 0, (1, 0), 0), ("call", 0),
                              ("call", 0, 0, 0), ("calls", 0, 0), ("Make", 3, 1), ("", 0, 0), (b"make", 3, 1),
                              (SAME, 3, 1), (["make"], 3, 1), ({}, 0, 0), (0, 0, 0), (("make", 3, 1),) * 3])

    def test_name(self):
        names = NO_NUMBERS + (-1, 4, 99)
        rests = (("view", 0), ("take", 0), ("test", 0), ("put", (0, 0), 1), ("get", (0, 0)), ("call", 0))
        for rest in rests:
            for name in names:
                step = (rest[0], name) + rest[1:]
                self.assertEqual(fault(BEGIN + [step]), (4, "name"), step)
                self.assertEqual(fault([step]), (0, "name"), step)
        self.assertEqual(fault([("take", 0, 0), ("make", 0, 0)]), (0, "name"))
        self.assertEqual(fault([("make", 0, 0), ("test", 0, 0), ("test", 1, 0)]), (2, "name"))
        self.assertIsNone(fault([("make", 0, 0), ("take", 0, 4), ("get", 1, (4, 0)), ("call", 1, 2)]))

    def test_class(self):
        bad = NO_NUMBERS + (-1, 5)
        self.refused("class", [("make", c, 1) for c in bad] + [("make", 3, view) for view in bad])
        self.refused("class", [(word, 0, c) for c in bad for word in ("view", "take", "test")])
        self.refused("class", [("make", 3, 4), ("make", 1, 3), ("make", 1, 2), ("make", 4, 0), ("view", 0, 3),
                               ("view", 0, 2), ("view", 1, 1), ("view", 2, 0), ("view", 3, 1)])
        for c in range(5):
            for word in ("take", "test"):
                self.assertIsNone(fault(BEGIN + [(word, 2, c)]))

    def test_field(self):
        bad = NO_NUMBERS + ((), (1,), (1, 0, 0), (True, 0), (1, False), (1.0, 0), (1, 0.0), (1, None), ((1, 0),), "10",
                            ((1, 0), 0), (1, 1), (1, -1), (2, 0), (3, 0), (4, 0), (5, 0), (-1, 0), (SAME, 0), {1: 0})
        self.refused("field", [("get", 0, field) for field in bad] + [("put", 0, field, 1) for field in bad])
        self.refused("field", [("get", 1, (1, 0)), ("get", 2, (0, 0)), ("get", 3, (1, 0)), ("put", 1, [1, 0], 1)])
        for name, field in ((0, (1, 0)), (0, [0, 1]), (1, (0, 0)), (2, (4, 0)), (3, [2, 0])):
            self.assertIsNone(fault(BEGIN + [("get", name, field), ("put", name, field, 1)]))

    def test_number(self):
        self.refused("number", [("put", 0, (1, 0), n) for n in NO_NUMBERS + (1000001, -1000001, 10 ** 30)])
        for number in (1000000, -1000000, 0, -1):
            self.assertIsNone(fault(BEGIN + [("put", 0, (1, 0), number)]))

    def test_method(self):
        self.refused("method", [("call", 0, m) for m in NO_NUMBERS + (2, 3, 5, 6, -1, 99)])
        self.refused("method", [("call", 1, 1), ("call", 1, 4), ("call", 2, 0), ("call", 3, 1), ("call", 3, 5)])
        for name, method in ((0, 0), (0, 1), (0, 4), (1, 0), (2, 2), (3, 0)):
            self.assertIsNone(fault(BEGIN + [("call", name, method)]))

    def test_first_of_two_faults(self):
        for what, step in (("step", ("put", 9, 9)), ("name", ("put", 9, None, None)), ("name", ("view", 9, 9)),
                           ("name", ("call", 4, 9)), ("field", ("put", 0, (2, 0), None)), ("class", ("make", 9, 9)),
                           ("name", ("get", True, (9, 9))), ("name", ("take", -1, 9)), ("name", ("test", "0", 9))):
            self.assertEqual(fault(BEGIN + [step]), (4, what))
        bad = (("step", ()), ("name", ("view", 9, 0)), ("class", ("make", 9, 0)), ("field", ("get", 0, (9, 9))),
               ("number", ("put", 0, (1, 0), None)), ("method", ("call", 0, 2)))
        for what, step in bad:
            for _, other in bad:
                self.assertEqual(fault(BEGIN + [step, other]), (4, what))
                self.assertEqual(fault(BEGIN + [step, ("make", 0, 0), other]), (4, what))


if __name__ == "__main__":
    unittest.main()

"""[7.1], [7.2] and what [7.8] tells of answers."""

import itertools
import random
import unittest

from headamid.definers import (
    answers_of, answers_to_come, check_name, defining_of, definer_of, off_line, two_answers,
)
from headamid.errors import BadName, BadWorld, NoClass, NoMethod, TwoAnswers
from headamid.worlds import World
from tests.samples import NO_SEQUENCES, SAME, caught, random_worlds

NO_NAMES = (-1, 6, True, False, 0.0, None, "0", (0,), [], {}, SAME)
# Class 3 has two answers for name 0, class 4 gives way to 3 by one way and to 1 by the other.
EXAMPLE = World([((), 0, (0,)), ((0,), 0, (0,)), ((0,), 0, (0, 3)), ((1, 2), 0, ()), ((3, 1), 0, ()), ((4,), 0, (0,))])


def worlds():
    """Worlds whose classes often define the names 0 and 1."""
    rng = random.Random(831)
    for _ in range(150):
        many = rng.randint(1, 8)
        names = ((), (), (0,), (1,), (1, 0), (5,))
        yield World([(rng.sample(range(c), rng.randint(0, min(c, 3))), 0, rng.choice(names)) for c in range(many)])
    yield from random_worlds(832, 40, 8, 0, methods=True)
    yield EXAMPLE


def due_defining(world, c, name):
    return tuple(k for k in sorted((c, *world.elders[c])) if name in world.methods[k])


def due_answers(world, c, name):
    row = due_defining(world, c, name)
    return tuple(k for k in row if not set(world.heirs[k]) & set(row))


class DefinersTest(unittest.TestCase):
    def test_names(self):
        self.assertEqual([check_name(name) for name in range(6)], list(range(6)))
        for thing in NO_NAMES:
            for call, things in ((check_name, ()), (defining_of, (EXAMPLE, 0)), (answers_of, (EXAMPLE, 0)),
                                 (definer_of, (EXAMPLE, 0)), (answers_to_come, (EXAMPLE, ())), (off_line, (EXAMPLE,))):
                self.assertIs(caught(BadName, call, *things, thing)["name"], thing)

    def test_no_class(self):
        for thing in (6, -1, True, False, 0.0, None, "0", (0,), SAME):
            for call in (defining_of, answers_of, definer_of):
                self.assertIs(caught(NoClass, call, EXAMPLE, thing, 99)["cls"], thing)

    def test_defining_answers_and_the_only_answer(self):
        seen = {0: 0, 1: 0, 2: 0}
        for world in worlds():
            for c, name in itertools.product(range(len(world)), range(6)):
                answers = answers_of(world, c, name)
                self.assertEqual((defining_of(world, c, name), answers),
                                 (due_defining(world, c, name), due_answers(world, c, name)))
                self.assertEqual((type(defining_of(world, c, name)), type(answers)), (tuple, tuple))
                seen[min(len(answers), 2)] += 1
                if not answers:
                    self.assertEqual(caught(NoMethod, definer_of, world, c, name), {"cls": c, "name": name})
                elif len(answers) == 1:
                    self.assertEqual(definer_of(world, c, name), answers[0])
                else:
                    self.assertEqual(list(caught(TwoAnswers, definer_of, world, c, name).items()),
                                     [("cls", c), ("name", name), ("a", answers[0]), ("b", answers[1])])
                if name in world.methods[c]:
                    self.assertEqual(answers, (c,))
        self.assertGreater(min(seen.values()), 30)

    def test_three_answers(self):
        world = World([((), 0, (2,)), ((), 0, (2,)), ((), 0, (2,)), ((2, 1, 0), 0, ())])
        self.assertEqual(answers_of(world, 3, 2), (0, 1, 2))
        self.assertEqual(caught(TwoAnswers, definer_of, world, 3, 2), {"cls": 3, "name": 2, "a": 0, "b": 1})

    def test_two_answers(self):
        for world in worlds():
            due = tuple((c, name) for c, name in itertools.product(range(len(world)), range(6))
                        if len(due_answers(world, c, name)) > 1)
            self.assertEqual(two_answers(world), due)
        self.assertEqual(two_answers(EXAMPLE), ((3, 0), (4, 0)))


class ToComeTest(unittest.TestCase):
    def test_answers_of_a_class_to_come(self):
        rng = random.Random(833)
        for world in worlds():
            for _ in range(4):
                bases = rng.sample(range(len(world)), rng.randint(0, len(world)))
                longer = world.with_class(bases, 0, ())
                for name in range(6):
                    found = answers_to_come(world, bases, name)
                    self.assertEqual((found, type(found)), (due_answers(longer, len(world), name), tuple))
                    self.assertEqual(answers_to_come(world, tuple(bases[::-1]), name), found)

    def test_by_hand(self):
        self.assertEqual(answers_to_come(EXAMPLE, (1, 2), 0), (1, 2))
        self.assertEqual(answers_to_come(EXAMPLE, [2, 5, 0], 0), (5,))
        self.assertEqual(answers_to_come(EXAMPLE, [2, 0, 1], 3), (2,))
        self.assertEqual(answers_to_come(EXAMPLE, (), 0), ())

    def test_twelve_classes(self):
        world = World([((), 0, (c % 6,)) for c in range(11)] + [((0, 6), 0, ())])
        self.assertEqual(answers_to_come(world, (11, 1, 7), 0), (0, 6))
        self.assertEqual(answers_to_come(world, list(range(12)), 1), (1, 7))
        self.assertEqual(caught(BadWorld, answers_to_come, world, [12], 0), {"index": 12, "what": "base"})

    def test_refused_in_order(self):
        for thing in NO_SEQUENCES + ((6,), (-1,), (0, 0), [1, 2, 1], (True,), [0, 1.0], (0, None), ([],), ("0",)):
            self.assertEqual(caught(BadWorld, answers_to_come, EXAMPLE, thing, 99), {"index": 6, "what": "base"})


class OffLineTest(unittest.TestCase):
    def test_first_two_classes(self):
        for world in worlds():
            for name in range(6):
                due = [(a, b) for a, b in itertools.combinations(range(len(world)), 2)
                       if name in world.methods[a] and name in world.methods[b] and a not in world.elders[b]]
                self.assertEqual(off_line(world, name), due[0] if due else None)

    def test_exactly_if_no_class_to_come_can_have_two_answers(self):
        rng = random.Random(834)
        seen = {True: 0, False: 0}
        for world in worlds():
            couple = off_line(world, 0)
            seen[couple is None] += 1
            if couple is not None:
                longer = world.with_class(couple, 0, ())
                self.assertTrue(any(name == 0 for _, name in two_answers(longer)))
                continue
            for _ in range(4):
                many = len(world)
                world = world.with_class(rng.sample(range(many), rng.randint(0, min(4, many))), 0, (1,))
            self.assertFalse(any(name == 0 for _, name in two_answers(world)))
        self.assertGreater(min(seen.values()), 30)

    def test_by_hand(self):
        self.assertEqual(off_line(EXAMPLE, 0), (1, 2))
        self.assertIsNone(off_line(EXAMPLE, 3))
        self.assertIsNone(off_line(EXAMPLE, 5))


class ExampleTest(unittest.TestCase):
    def test_example(self):
        self.assertEqual([answers_of(EXAMPLE, c, 0) for c in (3, 4, 5)], [(1, 2), (1, 2), (5,)])


if __name__ == "__main__":
    unittest.main()

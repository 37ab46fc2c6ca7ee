"""[8.3], [8.4]: programs run by name, and classes that may not stand for one another."""

import random
import unittest

from headamid.byname import Run, run_names, unlike_program
from headamid.errors import NoClass, NotUnder
from headamid.programs import Program
from headamid.worlds import World
from tests.samples import (
    DIAMOND, ONE, SAME, as_tuples, caught, definers_in, drawn_steps, due_answers, name_worlds, random_worlds, told,
    upward,
)

WORLDS = [DIAMOND] + name_worlds(1501, 120, 7, 2) + random_worlds(1502, 60, 9, 2, methods=True)
# Class 3 has two answers for name 0; name 4 is met again in class 4, whose definer has no own fields.
FIVE = World([((), 2, (0,)), ((0,), 1, (0, 4)), ((0,), 1, (0,)), ((2, 1), 0, (5,)), ((3,), 0, (4, 0))])


def due_run(world, steps):
    """What [8.3] tells of the results and objects of a right program, step by step."""
    objects, names, results = [], [], []
    for word, one, *rest in as_tuples(steps):
        thing = objects[one if word == "make" else names[one]] if word != "make" and names[one] is not None else None
        if word == "make":
            names.append(len(objects))
            objects.append((one, {f: 0 for f in world.all_fields if f[0] in upward(world, one)}))
            results.append(names[-1])
        elif thing is None:
            results.append("nothing")
            names += [None] if word in ("view", "take") else []
        elif word in ("take", "test"):
            kin = rest[0] in upward(world, thing[0])
            results.append(kin if word == "test" else names[one] if kin else "refused")
            names += [names[one] if kin else None] if word == "take" else []
        elif word == "view":
            results.append(names[one])
            names.append(names[one])
        elif word == "call":
            results.append(due_call(world, thing, rest[0]))
        else:
            results.append(thing[1][rest[0]])
            if word == "put":
                thing[1][rest[0]] = rest[1]
    return tuple(results), tuple((c, tuple(numbers[f] for f in sorted(numbers))) for c, numbers in objects)


def due_call(world, thing, method):
    answers = due_answers(world, thing[0], definers_in(world, method))
    if len(answers) > 1:
        return "two", method, answers[0], answers[1]
    field = (answers[0], 0)
    if field in thing[1]:
        thing[1][field] += 1
    return answers[0], method, thing[1].get(field)


def run(world, steps):
    return run_names(world, Program(world, steps))


def same(one, other):
    """Whether two results are equal and of the same kinds: True is not 1."""
    return repr(one) == repr(other)


class RunTest(unittest.TestCase):
    def check(self, world, steps, seen=None):
        found = run(world, steps)
        self.assertIs(type(found), Run)
        self.assertEqual(list(told(found)), ["results", "objects"])
        due = due_run(world, steps)
        self.assertTrue(same((found.results, found.objects), due), (world.classes, steps, found.results, due))
        for step, result in zip(steps, found.results if seen is not None else ()):
            key = (step[0], result if isinstance(result, (str, bool)) else
                   result[0] if isinstance(result, tuple) and result[0] == "two" else "")
            seen[key] = seen.get(key, 0) + 1
        return found

    def test_drawn(self):
        rng = random.Random(1503)
        seen = {}
        for world in WORLDS:
            for many in (0, 5, 12, 24, 24, 24):
                steps, _ = drawn_steps(rng, world, many)
                self.check(world, steps, seen)
        due = [("make", ""), ("test", True), ("test", False), ("take", ""), ("take", "refused"), ("call", ""),
               ("call", "two"), ("put", ""), ("get", ""), ("view", "")]
        due += [(word, "nothing") for word in ("view", "take", "test", "put", "get", "call")]
        self.assertEqual(sorted(map(str, seen)), sorted(map(str, due)))
        self.assertGreater(min(seen.values()), 30)

    def test_by_hand(self):
        found = self.check(FIVE, [
            ("make", 3, 1), ("call", 0, 0), ("call", 0, 4), ("call", 0, 4), ("get", 0, (1, 0)), ("put", 0, (1, 0), -7),
            ("call", 0, 4), ("view", 0, 0), ("call", 1, 0), ("put", 1, (0, 1), 3), ("make", 4, 1), ("call", 2, 0),
            ("call", 2, 4), ("test", 0, 4), ("test", 2, 2), ("take", 1, 3), ("call", 3, 5), ("get", 3, (0, 1))])
        self.assertEqual(found.results, (
            0, ("two", 0, 1, 2), (1, 4, 1), (1, 4, 2), 2, 2, (1, 4, -6), 0, ("two", 0, 1, 2), 0, 1, (4, 0, None),
            (4, 4, None), False, True, 0, (3, 5, None), 3))
        self.assertEqual(found.objects, ((3, (0, 3, -6, 0)), (4, (0, 0, 0, 0))))
        self.assertIs(found.results[13], False)
        self.assertIs(found.results[14], True)

    def test_nothing(self):
        found = self.check(FIVE, [
            ("make", 0, 0), ("take", 0, 3), ("view", 1, 1), ("take", 1, 0), ("take", 3, 0), ("put", 1, (1, 0), 5),
            ("get", 2, (0, 0)), ("call", 2, 0), ("test", 3, 0), ("test", 4, 4), ("get", 0, (0, 0)), ("take", 0, 0)])
        self.assertEqual(found.results, (0, "refused") + ("nothing",) * 8 + (0, 0))
        self.assertEqual(found.objects, ((0, (0, 0)),))

    def test_own_first_field_alone(self):
        world = World([((), 3, (2,)), ((0,), 2, (1, 2))])
        found = self.check(world, [("make", 1, 0), ("call", 0, 2), ("call", 0, 2), ("view", 0, 0), ("make", 0, 0),
                                   ("call", 2, 2)])
        self.assertEqual(found.results, (0, (1, 2, 1), (1, 2, 2), 0, 1, (0, 2, 1)))
        self.assertEqual(found.objects, ((1, (0, 0, 0, 2, 0)), (0, (1, 0, 0))))

    def test_no_steps(self):
        found = self.check(ONE, ())
        self.assertEqual((found.results, found.objects), ((), ()))

    def test_two_programs_in_turn(self):
        rng = random.Random(1504)
        for world in WORLDS[:60]:
            one, other = [Program(world, drawn_steps(rng, world, 20)[0]) for _ in range(2)]
            first = told(run_names(world, one))
            run_names(world, other)
            again = run_names(world, one)
            self.assertTrue(same(told(again), first))
            self.assertEqual((again.results, again.objects), due_run(world, one.steps))

    def test_a_class_more(self):
        rng = random.Random(1505)
        for world in WORLDS:
            program = Program(world, drawn_steps(rng, world, 24)[0])
            longer = world.with_class(rng.sample(range(len(world)), rng.randint(0, len(world))), 2, (0, 1, 5))
            self.assertTrue(same(told(run_names(longer, program)), told(run_names(world, program))))

    def test_result_keeps_the_very_things(self):
        things = [1], [2]
        self.assertEqual([a is b for a, b in zip(told(Run(*things)).values(), things)], [True, True])


class UnlikeTest(unittest.TestCase):
    def due(self, world, view, first, second):
        """The names for which the two classes answer otherwise behind the view."""
        names = {name for k in upward(world, view) for name in world.methods[k]}
        rows = [[due_answers(world, c, definers_in(world, name))[:2] for c in (first, second)] for name in names]
        return any(one != other for one, other in rows)

    def test_each_view_with_each_two_classes(self):
        seen = {True: 0, False: 0}
        for world in WORLDS:
            for view in range(len(world)):
                for first in (view, *world.heirs[view]):
                    for second in (view, *world.heirs[view]):
                        found = unlike_program(world, view, first, second)
                        due = self.due(world, view, first, second)
                        self.assertEqual(found is not None, due)
                        seen[due] += 1
                        if due:
                            self.check_shown(world, view, first, second, found)
        self.assertGreater(min(seen.values()), 300)

    def check_shown(self, world, view, first, second, steps):
        self.assertEqual((as_tuples(steps), len(steps), steps[0]), (steps, 2, ("make", first, view)))
        other = (("make", second, view),) + steps[1:]
        self.assertNotEqual(run(world, steps).results, run(world, other).results)

    def test_drawn_programs_of_classes_that_are_not_unlike(self):
        rng = random.Random(1506)
        tried = 0
        for world in WORLDS:
            for _ in range(30):
                view = rng.randrange(len(world))
                first, second = [rng.choice((view, *world.heirs[view])) for _ in range(2)]
                if first == second or unlike_program(world, view, first, second) is not None:
                    continue
                steps, _ = drawn_steps(rng, world, 20, [("make", first, view)], ("make", "view", "put", "get", "call"))
                other = [("make", second, view)] + steps[1:]
                self.assertTrue(same(run(world, steps).results, run(world, other).results))
                tried += 1
        self.assertGreater(tried, 200)

    def test_by_hand(self):
        self.assertIsNone(unlike_program(FIVE, 2, 2, 2))
        self.assertIsNone(unlike_program(ONE, 0, 0, 0))
        self.assertEqual(unlike_program(FIVE, 0, 3, 4), (("make", 3, 0), ("call", 0, 0)))
        self.assertEqual(unlike_program(FIVE, 3, 3, 4)[0], ("make", 3, 3))
        three = World([((), 0, (1,)), ((0,), 0, (1,)), ((0,), 0, (1,)), ((0,), 0, (1,)), ((1, 2), 0, ()),
                       ((1, 2, 3), 0, ()), ((3, 1), 0, ())])
        self.assertIsNone(unlike_program(three, 0, 4, 5))
        self.assertIsNone(unlike_program(three, 0, 5, 4))
        self.assertEqual(unlike_program(three, 0, 5, 6), (("make", 5, 0), ("call", 0, 1)))

    def test_refused_in_order(self):
        for thing in (5, -1, True, False, 1.0, None, "0", (0,), [0], SAME):
            self.assertIs(caught(NoClass, unlike_program, FIVE, thing, 99, 99)["cls"], thing)
            self.assertIs(caught(NoClass, unlike_program, FIVE, 1, thing, 99)["cls"], thing)
            self.assertIs(caught(NoClass, unlike_program, FIVE, 1, 3, thing)["cls"], thing)
            self.assertEqual(caught(NotUnder, unlike_program, FIVE, 1, 2, thing), {"cls": 2})
        self.assertEqual(caught(NotUnder, unlike_program, FIVE, 1, 0, 2), {"cls": 0})
        self.assertEqual(caught(NotUnder, unlike_program, FIVE, 1, 4, 2), {"cls": 2})
        self.assertEqual(caught(NotUnder, unlike_program, FIVE, 4, 4, 3), {"cls": 3})


if __name__ == "__main__":
    unittest.main()

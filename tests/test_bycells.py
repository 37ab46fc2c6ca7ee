"""[8.6] to [8.10]: programs compiled and run by cells."""

import random
import unittest

from headamid.bycells import (
    CellRun, ClassRow, Code, Machine, compile_program, machine_of, run_cells, run_code,
)
from headamid.byname import Run, run_names
from headamid.layings import Laying
from headamid.programs import Program
from headamid.setups import Setup, extends_setup
from headamid.worlds import World
from tests.samples import (
    DIAMOND, ONE, as_tuples, definers_in, drawn_setup, drawn_steps, due_answers, entries_in, later_setup, name_worlds,
    plain_world, random_worlds, told, upward,
)

WORLDS = [ONE, DIAMOND] + name_worlds(1701, 100, 7, 2) + random_worlds(1702, 60, 9, 2, methods=True)
# Entries: (0, 0), (1, 0), (1, 4), (3, 5). Class 3 has two answers for name 0, class 4 defines it without own fields.
FIVE = World([((), 2, (0,)), ((), 1, (4, 0)), ((0,), 0, (0,)), ((2, 1), 0, (5,)), ((3,), 0, (0,))])
GOOD = Setup(FIVE, Laying(FIVE, (1, 2, -1)), (1, -1, 2, -2), (0, 1, 0, 2, 2))


def depth(setup, c):
    return sum(setup.hues[k] == setup.hues[c] for k in setup.world.elders[c])


def due_answer(setup, c, name):
    """What stands in the table of a class for an entry with this name."""
    answers = due_answers(setup.world, c, definers_in(setup.world, name))
    if len(answers) > 1:
        return ("two", name) + answers[:2]
    fields = dict(zip(setup.world.all_fields, setup.laying.places))
    return "one", answers[0], name, fields.get((answers[0], 0))


def due_row(setup, c):
    """The places, the table and the ladders that [8.6] tells."""
    fields = dict(zip(setup.world.all_fields, setup.laying.places))
    places = {fields[f] for f in fields if f[0] in upward(setup.world, c)}
    place = dict(zip(entries_in(setup.world), setup.table))
    table = {place[entry]: due_answer(setup, c, entry[1]) for entry in entries_in(setup.world, c)}
    ladders = {}
    for k in upward(setup.world, c):
        ladders.setdefault(setup.hues[k], {})[depth(setup, k)] = k
    rows = {hue: tuple(found.get(at) for at in range(max(found) + 1)) for hue, found in ladders.items()}
    return tuple(sorted(places)), tuple(sorted(table.items())), tuple(sorted(rows.items()))


def due_code(setup, program):
    """The steps that [8.7] tells."""
    fields = dict(zip(setup.world.all_fields, setup.laying.places))
    table = dict(zip(entries_in(setup.world), setup.table))
    found = []
    for word, one, two, *rest in program.steps:
        if word == "make":
            found.append(("make", one))
        elif word == "view":
            found.append(("same", one))
        elif word in ("take", "test"):
            found.append((word, one, setup.hues[two], depth(setup, two), two))
        elif word in ("put", "get"):
            found.append((word, one, fields[two], *rest))
        else:
            least = min(entry for entry in entries_in(setup.world, program.views[one]) if entry[1] == two)
            found.append((word, one, table[least]))
    return tuple(found)


def due_run(setup, program):
    """The results, the objects by cells and the looks that [8.8] tells, worked out step by step."""
    objects, names, results, looks = [], [], [], 0
    for word, one, *rest in due_code(setup, program):
        if word == "make":
            names.append(len(objects))
            results.append(len(objects))
            objects.append((one, {place: 0 for place in due_row(setup, one)[0]}))
            continue
        held = names[one]
        result = "nothing"
        if held is not None:
            c, cells = objects[held]
            places, table, ladders = due_row(setup, c)
            looks += word in ("call", "take", "test")
            if word in ("take", "test"):
                hue, at, target = rest
                ladder = dict(ladders).get(hue, ())
                is_there = len(ladder) > at and ladder[at] == target
                result = is_there if word == "test" else held if is_there else "refused"
            elif word == "call":
                result = dict(table)[rest[0]]
                if result[0] == "one":
                    _, definer, method, place = result
                    if place is not None:
                        cells[place] += 1
                    result = (definer, method, cells.get(place))
            else:
                result = held if word == "same" else cells[rest[0]]
                if word == "put":
                    cells[rest[0]] = rest[1]
        if word in ("same", "take"):
            names.append(None if result in ("nothing", "refused") else held)
        results.append(result)
    return tuple(results), tuple((c, tuple(sorted(cells.items()))) for c, cells in objects), looks


def parts(result):
    return tuple(told(result).values())


class RowTest(unittest.TestCase):
    def test_drawn(self):
        rng = random.Random(1703)
        seen = {"shared": 0, "None": 0, "two": 0, "one": 0, "no field": 0}
        for world in WORLDS:
            for _ in range(3):
                setup = drawn_setup(rng, world)
                machine = machine_of(setup)
                self.assertEqual((type(machine), list(told(machine)), type(machine.rows)), (Machine, ["rows"], tuple))
                self.assertEqual(len(machine.rows), len(world))
                for c, row in enumerate(machine.rows):
                    self.assertEqual((type(row), list(told(row))), (ClassRow, ["places", "table", "ladders"]))
                    self.assertEqual(parts(row), due_row(setup, c))
                    self.assertEqual(as_tuples(parts(row)), parts(row))
                    seen["None"] += None in [k for _, ladder in row.ladders for k in ladder]
                    seen["shared"] += len(row.table) < len(entries_in(world, c))
                    for _, answer in row.table:
                        seen[answer[0]] += 1
                        seen["no field"] += answer[0] == "one" and answer[3] is None
        self.assertGreater(min(seen.values()), 20)

    def test_by_hand(self):
        rows = machine_of(GOOD).rows
        self.assertEqual(parts(rows[0]), ((1, 2), ((1, ("one", 0, 0, 1)),), ((0, (0,)),)))
        self.assertEqual(parts(rows[1]), ((-1,), ((-1, ("one", 1, 0, -1)), (2, ("one", 1, 4, -1))), ((1, (1,)),)))
        self.assertEqual(parts(rows[3]), ((-1, 1, 2), (
            (-2, ("one", 3, 5, None)), (-1, ("two", 0, 1, 2)), (1, ("two", 0, 1, 2)), (2, ("one", 1, 4, -1))),
            ((0, (0, 2)), (1, (1,)), (2, (3,)))))
        self.assertEqual(rows[4].ladders, ((0, (0, 2)), (1, (1,)), (2, (3, 4))))
        self.assertEqual(rows[4].table[2], (1, ("one", 4, 0, None)))

    def test_places_that_are_shared(self):
        setup = Setup(FIVE, Laying(FIVE, (3, 3, 3)), (1, 1, 7, 7), (0,) * 5)
        rows = machine_of(setup).rows
        self.assertEqual(rows[3].places, (3,))
        self.assertEqual(rows[1].table, ((1, ("one", 1, 0, 3)), (7, ("one", 1, 4, 3))))
        self.assertEqual(rows[3].table, ((1, ("two", 0, 1, 2)), (7, ("one", 3, 5, None))))

    def test_ladders(self):
        world = plain_world([(), (), (0, 1), (2,), (3, 0), ()], [0] * 6)
        rows = machine_of(Setup(world, Laying(world, ()), (), (3, 3, 3, 1, 3, 7))).rows
        self.assertEqual(rows[1].ladders, ((3, (1,)),))
        # Classes 0 and 1 have the depth 0, none has the depth 1.
        self.assertEqual(rows[2].ladders, ((3, (1, None, 2)),))
        self.assertEqual(rows[4].ladders, ((1, (3,)), (3, (1, None, 2, 4))))
        self.assertEqual(rows[5].ladders, ((7, (5,)),))

    def test_rows_hang_on_the_setup_alone(self):
        rng = random.Random(1704)
        for world in WORLDS[:40]:
            setup = drawn_setup(rng, world)
            first = [parts(row) for row in machine_of(setup).rows]
            run_cells(setup, Program(world, drawn_steps(rng, world, 20)[0]))
            self.assertEqual([parts(row) for row in machine_of(setup).rows], first)


class CodeTest(unittest.TestCase):
    def test_drawn(self):
        rng = random.Random(1705)
        for world in WORLDS:
            for many in (0, 24, 24):
                setup = drawn_setup(rng, world)
                program = Program(world, drawn_steps(rng, world, many)[0])
                code = compile_program(setup, program)
                self.assertEqual((type(code), list(told(code))), (Code, ["steps"]))
                self.assertEqual(code.steps, due_code(setup, program))
                self.assertEqual(as_tuples(code.steps), code.steps)

    def test_each_form(self):
        program = Program(FIVE, [("make", 4, 3), ("view", 0, 2), ("take", 1, 3), ("test", 0, 4), ("put", 2, [0, 1], -5),
                                 ["get", 0, (1, 0)], ("call", 1, 0), ("call", 2, 0), ("call", 0, 4), ("take", 0, 0)])
        self.assertEqual(compile_program(GOOD, program).steps, (
            ("make", 4), ("same", 0), ("take", 1, 2, 0, 3), ("test", 0, 2, 1, 4), ("put", 2, 2, -5), ("get", 0, -1),
            ("call", 1, 1), ("call", 2, 1), ("call", 0, 2), ("take", 0, 0, 0, 0)))

    def test_least_entry_of_the_view(self):
        world = World([((), 0, (0,)), ((), 0, (0,)), ((1, 0), 0, ())])
        setup = Setup(world, Laying(world, ()), (7, 8), (0, 1, 2))
        for view, place in ((0, 7), (1, 8), (2, 7)):
            program = Program(world, [("make", 2, view), ("call", 0, 0)])
            self.assertEqual(compile_program(setup, program).steps, (("make", 2), ("call", 0, place)))


class RunTest(unittest.TestCase):
    def check(self, setup, program):
        found = run_code(machine_of(setup), compile_program(setup, program))
        self.assertEqual((type(found), list(told(found))), (CellRun, ["results", "objects", "looks"]))
        self.assertEqual(repr(parts(found)), repr(due_run(setup, program)))
        run = run_cells(setup, program)
        self.assertEqual((type(run), repr(run.results)), (Run, repr(found.results)))
        fields = dict(zip(setup.world.all_fields, setup.laying.places))
        due = tuple((c, tuple(dict(cells)[fields[f]] for f in sorted(fields) if f[0] in upward(setup.world, c)))
                    for c, cells in found.objects)
        self.assertEqual(run.objects, due)
        return found

    def test_drawn(self):
        rng = random.Random(1706)
        seen = {}
        for world in WORLDS:
            for many in (0, 10, 24, 24, 24):
                setup = drawn_setup(rng, world)
                program = Program(world, drawn_steps(rng, world, many)[0])
                found = self.check(setup, program)
                for step, result in zip(program.steps, found.results):
                    key = (step[0], result if isinstance(result, (str, bool)) else "")
                    seen[key] = seen.get(key, 0) + 1
                other = run_names(world, program)
                seen["otherwise"] = seen.get("otherwise", 0) + (other.results != found.results)
        self.assertEqual(len(seen), 7 + 1 + 6 + 1 + 1)
        self.assertGreater(min(seen.values()), 30)

    def test_again_behind_another_one(self):
        rng = random.Random(1707)
        for world in WORLDS[:80]:
            setup = drawn_setup(rng, world)
            machine = machine_of(setup)
            one, other = [compile_program(setup, Program(world, drawn_steps(rng, world, 24)[0])) for _ in range(2)]
            first = parts(run_code(machine, one))
            run_code(machine, other)
            self.assertEqual(parts(run_code(machine, one)), first)

    def test_what_is_shared(self):
        setup = Setup(FIVE, Laying(FIVE, (3, 3, 3)), (1, 1, 7, 7), (0,) * 5)
        program = Program(FIVE, [("make", 3, 3), ("put", 0, (0, 0), 4), ("get", 0, (0, 1)), ("get", 0, (1, 0)),
                                 ("call", 0, 4), ("call", 0, 5), ("make", 1, 1), ("call", 1, 0), ("call", 1, 4),
                                 ("test", 0, 0), ("test", 0, 1), ("take", 0, 2), ("put", 2, (0, 1), 1)])
        found = self.check(setup, program)
        self.assertEqual(found.results, (
            0, 0, 4, 4, (3, 5, None), (3, 5, None), 1, (1, 0, 1), (1, 4, 2), False, True, 0, 4))
        self.assertEqual((found.objects, found.looks), (((3, ((3, 1),)), (1, ((3, 2),))), 7))
        self.assertEqual(run_cells(setup, program).objects, ((3, (1, 1, 1)), (1, (2,))))

    def test_names_that_hold_nothing(self):
        program = Program(FIVE, [("make", 0, 0), ("take", 0, 3), ("view", 1, 1), ("take", 2, 0), ("test", 3, 0),
                                 ("call", 1, 0), ("put", 1, (0, 0), 5), ("get", 1, (0, 0)), ("take", 0, 0),
                                 ("test", 4, 2)])
        found = self.check(GOOD, program)
        self.assertEqual(found.results, (0, "refused") + ("nothing",) * 6 + (0, False))
        self.assertEqual((found.objects, found.looks), (((0, ((1, 0), (2, 0))),), 3))

    def test_no_steps(self):
        found = self.check(Setup(ONE, Laying(ONE, ()), (), (0,)), Program(ONE, ()))
        self.assertEqual(parts(found), ((), (), 0))

    def test_results_keep_the_very_things(self):
        for cls, many in ((ClassRow, 3), (Machine, 1), (Code, 1), (CellRun, 3)):
            things = [[at] for at in range(many)]
            self.assertEqual([a is b for a, b in zip(told(cls(*things)).values(), things)], [True] * many)


class ExtendedTest(unittest.TestCase):
    def test_equal_code_and_equal_runs(self):
        rng = random.Random(1708)
        heirs = 0
        for world in WORLDS:
            setup = drawn_setup(rng, world)
            later = setup
            for _ in range(rng.randint(1, 3)):
                later = later_setup(rng, later)
            self.assertIs(extends_setup(later, setup), True)
            for _ in range(3):
                program = Program(world, drawn_steps(rng, world, 24)[0])
                code, other = compile_program(setup, program), compile_program(later, program)
                self.assertEqual(code.steps, other.steps)
                runs = [parts(run_code(machine_of(one), code)) for one in (setup, later)]
                self.assertEqual(repr(runs[0]), repr(runs[1]))
                heirs += self.check_make_of_an_heir(rng, later, program, code)
        self.assertGreater(heirs, 60)

    def check_make_of_an_heir(self, rng, later, program, code):
        """A make of a class is changed to one of an heir in the later world: only this step of the code changes."""
        makes = [at for at, step in enumerate(program.steps) if step[0] == "make" and later.world.heirs[step[1]]]
        if not makes:
            return 0
        at = rng.choice(makes)
        heir = rng.choice(later.world.heirs[program.steps[at][1]])
        steps = list(program.steps)
        steps[at] = ("make", heir, steps[at][2])
        found = compile_program(later, Program(later.world, steps)).steps
        self.assertEqual(found, code.steps[:at] + (("make", heir),) + code.steps[at + 1:])
        return 1


if __name__ == "__main__":
    unittest.main()

"""Programs compiled and run by cells: fields, methods and classes are found by their places alone."""

from headamid.byname import TWO, Run, run_steps
from headamid.definers import answers_of
from headamid.elders import fields_of
from headamid.tables import entries_of, entry_places


class ClassRow:
    """What a run by cells knows of a class: the places of its fields, its table, and its ladders."""

    def __init__(self, places, table, ladders):
        self.places = places
        self.table = table
        self.ladders = ladders


class Machine:
    """The rows of all classes."""

    def __init__(self, rows):
        self.rows = rows


class Code:
    """The steps of a compiled program."""

    def __init__(self, steps):
        self.steps = steps


class CellRun:
    """What a run by cells gave for each step, its objects at the end, and the number of looks into rows."""

    def __init__(self, results, objects, looks):
        self.results = results
        self.objects = objects
        self.looks = looks


def machine_of(setup):
    """The machine of a setup: a row for each class."""
    return Machine(tuple([class_row(setup, c) for c in range(len(setup.world.classes))]))


def class_row(setup, c):
    """The row of one class."""
    places = sorted(set([setup.laying.place_of(field) for field in fields_of(setup.world, c)]))
    return ClassRow(tuple(places), answer_table(setup, c), ladder_table(setup, c))


def answer_table(setup, c):
    """For each place that an entry of c has the answer of the greatest entry there, ascending by place."""
    places = entry_places(setup.world, setup.table)
    last = {places[entry]: entry for entry in entries_of(setup.world, c)}
    return tuple([(place, entry_answer(setup, c, last[place][1])) for place in sorted(last)])


def entry_answer(setup, c, name):
    """What stands in the table of c for an entry with this name."""
    answers = answers_of(setup.world, c, name)
    if len(answers) > 1:
        return TWO, name, answers[0], answers[1]
    definer = answers[0]
    place = setup.laying.place_of((definer, 0)) if setup.world.owns[definer] > 0 else None
    return "one", definer, name, place


def ladder_table(setup, c):
    """For each hue among c and its elders its classes by their depths, ascending by hue."""
    ladders = {}
    for k in setup.world.elders[c] + (c,):
        hue = setup.hues[k]
        if hue not in ladders:
            ladders[hue] = {}
        # A greater class of the same depth takes the place of a lesser one.
        ladders[hue][depth_in(setup, k)] = k
    return tuple([(hue, by_depth(ladders[hue])) for hue in sorted(ladders)])


def depth_in(setup, c):
    """The number of elders of a class that have its hue."""
    return len([k for k in setup.world.elders[c] if setup.hues[k] == setup.hues[c]])


def by_depth(classes):
    """The classes of a dict by depth as a tuple, None for a depth that is missing."""
    return tuple([classes.get(depth) for depth in range(max(classes) + 1)])


def compile_program(setup, program):
    """The code of a program: each name of a field, a method or a class gives way to where it is found."""
    return Code(tuple([code_step(setup, program, step) for step in program.steps]))


def code_step(setup, program, step):
    """The code of one step."""
    word = step[0]
    if word == "make":
        return word, step[1]
    if word == "view":
        return "same", step[1]
    if word == "take" or word == "test":
        return word, step[1], setup.hues[step[2]], depth_in(setup, step[2]), step[2]
    if word == "call":
        return word, step[1], call_place(setup, program.views[step[1]], step[2])
    return (word, step[1], setup.laying.place_of(step[2])) + step[3:]


def call_place(setup, view, method):
    """The table place of the least entry of a view that has the name of this method."""
    named = [entry for entry in entries_of(setup.world, view) if entry[1] == method]
    return entry_places(setup.world, setup.table)[named[0]]


class CellObjects:
    """The objects of a run by cells: the class of each, and its numbers by place; looks are counted here."""

    def __init__(self, machine):
        self.machine = machine
        self.made = []
        self.looks = 0

    def new_object(self, c):
        """Makes an object of a class and returns its number."""
        self.made.append((c, {place: 0 for place in self.machine.rows[c].places}))
        return len(self.made) - 1

    def is_under(self, number, step):
        """Whether the target of a step stands in the ladder of the object's class where its depth tells."""
        self.looks = self.looks + 1
        hue, depth, target = step[2:]
        for other, ladder in self.machine.rows[self.made[number][0]].ladders:
            if other == hue and depth < len(ladder):
                return ladder[depth] == target
        return False

    def use_object(self, number, step):
        """Puts, gets or calls, and returns the result."""
        c, numbers = self.made[number]
        if step[0] == "call":
            self.looks = self.looks + 1
            return call_by_cell(self.machine.rows[c], numbers, step[2])
        held = numbers[step[2]]
        if step[0] == "put":
            numbers[step[2]] = step[3]
        return held


def call_by_cell(row, numbers, place):
    """Calls what stands at a place of the table in a row, for an object with these numbers; returns the result."""
    answer = [told for at, told in row.table if at == place][0]
    if answer[0] == TWO:
        return answer
    _, definer, method, cell = answer
    if cell is None:
        return definer, method, None
    numbers[cell] = numbers[cell] + 1
    return definer, method, numbers[cell]


def run_code(machine, code):
    """Runs code on a machine."""
    store = CellObjects(machine)
    results = run_steps(code.steps, store)
    objects = tuple([(c, tuple([(place, numbers[place]) for place in numbers])) for c, numbers in store.made])
    return CellRun(results, objects, store.looks)


def run_cells(setup, program):
    """Runs a program by cells and tells its results and objects as run_names does."""
    run = run_code(machine_of(setup), compile_program(setup, program))
    return Run(run.results, tuple([(c, field_numbers(setup, c, cells)) for c, cells in run.objects]))


def field_numbers(setup, c, cells):
    """The numbers of the fields of an object of class c, by its couples of place and number."""
    numbers = {place: number for place, number in cells}
    return tuple([numbers[setup.laying.place_of(field)] for field in fields_of(setup.world, c)])

"""Programs run by name: fields and methods are found by what they are called."""

from headamid.definers import answers_of, defining_of
from headamid.elders import check_class, fields_of, is_kin
from headamid.errors import NotUnder
from headamid.worlds import METHOD_NAMES

NOTHING = "nothing"
REFUSED = "refused"
TWO = "two"


class Run:
    """What a run gave for each step, and its objects at the end."""

    def __init__(self, results, objects):
        self.results = results
        self.objects = objects


class NamedObjects:
    """The objects of a run by name: the class of each, and its numbers by field."""

    def __init__(self, world):
        self.world = world
        self.made = []

    def new_object(self, c):
        """Makes an object of a class and returns its number."""
        self.made.append((c, {field: 0 for field in fields_of(self.world, c)}))
        return len(self.made) - 1

    def is_under(self, number, step):
        """Whether the class of an object is the target of a step or an heir of it."""
        return is_kin(self.world, self.made[number][0], step[2])

    def use_object(self, number, step):
        """Puts, gets or calls, and returns the result."""
        c, numbers = self.made[number]
        if step[0] == "call":
            return call_by_name(self.world, c, numbers, step[2])
        held = numbers[step[2]]
        if step[0] == "put":
            numbers[step[2]] = step[3]
        return held


def call_by_name(world, c, numbers, method):
    """Calls a method of an object of a class with these numbers, and returns the result."""
    answers = answers_of(world, c, method)
    if len(answers) > 1:
        return TWO, method, answers[0], answers[1]
    definer = answers[0]
    if world.owns[definer] == 0:
        return definer, method, None
    numbers[(definer, 0)] = numbers[(definer, 0)] + 1
    return definer, method, numbers[(definer, 0)]


def run_steps(steps, store):
    """The results of some steps; what their names hold is kept here, the objects are kept in the store."""
    held = []
    results = []
    for step in steps:
        if step[0] == "make":
            held.append(store.new_object(step[1]))
            results.append(held[-1])
        else:
            results.append(use_name(step, store, held))
    return tuple(results)


def use_name(step, store, held):
    """The result of a step that uses a name; what a new name holds comes behind what is held."""
    number = held[step[1]]
    result = NOTHING
    kept = None
    if number is not None:
        result = result_of(step, store, number)
        if result != REFUSED:
            kept = number
    if step[0] in ("view", "same", "take"):
        held.append(kept)
    return result


def result_of(step, store, number):
    """The result of a step that uses an object."""
    if step[0] == "test":
        return store.is_under(number, step)
    if step[0] == "take":
        return number if store.is_under(number, step) else REFUSED
    if step[0] == "view" or step[0] == "same":
        return number
    return store.use_object(number, step)


def run_names(world, program):
    """Runs a program by name."""
    store = NamedObjects(world)
    results = run_steps(program.steps, store)
    return Run(results, tuple([(c, tuple([numbers[field] for field in numbers])) for c, numbers in store.made]))


def unlike_program(world, view, first, second):
    """Two steps that show that one class may not stand for the other behind a view, or None."""
    check_class(world, view)
    check_under(world, view, first)
    check_under(world, view, second)
    for name in range(METHOD_NAMES):
        if len(defining_of(world, view, name)) > 0:
            if answers_of(world, first, name)[:2] != answers_of(world, second, name)[:2]:
                return ("make", first, view), ("call", 0, name)
    return None


def check_under(world, view, c):
    """Raises NotUnder if a class is neither the view nor an heir of it."""
    if not is_kin(world, check_class(world, c), view):
        raise NotUnder(c)

"""Programs: checked rows of steps that make objects and use them."""

from headamid.elders import fields_of
from headamid.errors import BadProgram
from headamid.wholes import has_form, is_sequence, is_whole, is_whole_couple, tuple_throughout

MOST_STEPS = 24
FARTHEST_NUMBER = 1000000
# Each form of a step is its word and its number of items.
FORMS = (("make", 3), ("view", 3), ("take", 3), ("test", 3), ("put", 4), ("get", 3), ("call", 3))
BRINGING = ("make", "view", "take")


class Program:
    """The steps of a program, checked in a world that it does not keep."""

    def __init__(self, world, steps):
        if not is_sequence(steps) or len(steps) > MOST_STEPS:
            raise BadProgram(0, "many")
        kept = []
        views = []
        for at, step in enumerate(steps):
            what = step_fault(world, views, step)
            if what is not None:
                raise BadProgram(at, what)
            kept.append(tuple_throughout(step))
            if step[0] in BRINGING:
                views.append(step[2])
        self.steps = tuple(kept)
        self.views = tuple(views)
        self.many = len(kept)


def step_fault(world, views, step):
    """The word for what is wrong with a step behind steps that brought in names with these views, or None."""
    if not has_form(step, FORMS):
        return "step"
    if step[0] == "make":
        return None if is_class(world, step[1]) and is_view(world, step[1], step[2]) else "class"
    if not is_whole(step[1], 0, len(views) - 1):
        return "name"
    return use_fault(world, views[step[1]], step)


def use_fault(world, view, step):
    """The word for what is wrong with a step that uses a name with this view, or None."""
    if step[0] == "view":
        return None if is_view(world, view, step[2]) else "class"
    if step[0] == "take" or step[0] == "test":
        return None if is_class(world, step[2]) else "class"
    if step[0] == "call":
        return None if has_method(world, view, step[2]) else "method"
    if not is_whole_couple(step[2]) or tuple(step[2]) not in fields_of(world, view):
        return "field"
    if step[0] == "put" and not is_whole(step[3], -FARTHEST_NUMBER, FARTHEST_NUMBER):
        return "number"
    return None


def is_class(world, thing):
    """Whether a thing is a class of the world."""
    return is_whole(thing, 0, len(world.classes) - 1)


def is_view(world, c, thing):
    """Whether a thing is this class or an elder of it."""
    return is_class(world, thing) and (thing == c or thing in world.elders[c])


def has_method(world, view, thing):
    """Whether a thing is a method of the view or of an elder of it."""
    return is_whole(thing) and any([thing in world.methods[k] for k in world.elders[view] + (view,)])

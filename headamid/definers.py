"""Names of methods: the classes that define them, and the answers of a class."""

from headamid.elders import check_class, on_line
from headamid.errors import BadName, BadWorld, NoMethod, TwoAnswers
from headamid.wholes import is_unlike_row, is_whole
from headamid.worlds import METHOD_NAMES


def check_name(name):
    """Returns the name if it is one."""
    if not is_whole(name, 0, METHOD_NAMES - 1):
        raise BadName(name)
    return name


def defining_of(world, c, name):
    """The classes among c and its elders that define the name, ascending."""
    check_class(world, c)
    check_name(name)
    return tuple([k for k in world.elders[c] + (c,) if name in world.methods[k]])


def answers_of(world, c, name):
    """The classes among c and its elders that define the name and have no heir among them, ascending."""
    return last_heirs(world, defining_of(world, c, name))


def last_heirs(world, classes):
    """Those of some classes that have no heir among them."""
    return tuple([k for k in classes if not any([k in world.elders[heir] for heir in classes])])


def definer_of(world, c, name):
    """The only answer of a class for a name."""
    answers = answers_of(world, c, name)
    if len(answers) == 0:
        raise NoMethod(c, name)
    if len(answers) > 1:
        raise TwoAnswers(c, name, answers[0], answers[1])
    return answers[0]


def two_answers(world):
    """All couples of a class and a name for which it has two or more answers, ascending."""
    return tuple([(c, name) for c in range(len(world.classes)) for name in range(METHOD_NAMES)
                  if len(answers_of(world, c, name)) > 1])


def answers_to_come(world, bases, name):
    """The answers for a name of a class with these bases that is added without defining it, ascending."""
    many = len(world.classes)
    if not is_unlike_row(bases, many):
        raise BadWorld(many, "base")
    check_name(name)
    found = [answer for base in bases for answer in answers_of(world, base, name)]
    return last_heirs(world, sorted(set(found)))


def off_line(world, name):
    """The first two classes that define the name and are not on one line, or None."""
    check_name(name)
    row = [c for c, methods in enumerate(world.methods) if name in methods]
    for k, a in enumerate(row):
        for b in row[k + 1:]:
            if not on_line(world, a, b):
                return a, b
    return None

"""Elders, heirs and fields of the classes of a world."""

from headamid.errors import NoClass, NoField
from headamid.wholes import is_whole, is_whole_couple


def check_class(world, c):
    """Returns c if it is a class of the world."""
    if not is_whole(c, 0, len(world.classes) - 1):
        raise NoClass(c)
    return c


def check_field(world, field):
    """Returns the field as a tuple if it is a field of the world."""
    if not is_whole_couple(field) or tuple(field) not in world.all_fields:
        raise NoField(field)
    return tuple(field)


def elders_of(world, c):
    """The elders of a class, ascending."""
    return world.elders[check_class(world, c)]


def heirs_of(world, c):
    """The heirs of a class, ascending."""
    return world.heirs[check_class(world, c)]


def common_heirs(world, a, b):
    """The classes that are heirs of both a and b, ascending."""
    check_class(world, a)
    check_class(world, b)
    return tuple([heir for heir in world.heirs[a] if heir in world.heirs[b]])


def is_kin(world, c, target):
    """Whether c is the target or an heir of it."""
    check_class(world, c)
    check_class(world, target)
    return c == target or target in world.elders[c]


def on_line(world, a, b):
    """Whether a and b are the same class or one is an elder of the other."""
    check_class(world, a)
    check_class(world, b)
    return a == b or a in world.elders[b] or b in world.elders[a]


def own_fields(world, c):
    """The own fields of a class, ascending."""
    check_class(world, c)
    return tuple([(c, i) for i in range(world.owns[c])])


def fields_of(world, c):
    """The fields of a class, its own and those of its elders, ascending."""
    check_class(world, c)
    return tuple([(k, i) for k in world.elders[c] + (c,) for i in range(world.owns[k])])

"""Names that kinds are let to define: when all worlds are clear, and when all have close tables."""

from headamid.errors import BadLets
from headamid.kinds import KindRing, Kinds, check_given, check_kept, kind_sides, ring_world
from headamid.wholes import is_sequence, is_unlike_row
from headamid.worlds import METHOD_NAMES, World


class NotLet:
    """A class that defines a name that its kind is not let."""

    def __init__(self, cls, name):
        self.cls = cls
        self.name = name


class TwoKinds:
    """A name that two joined kinds are let."""

    def __init__(self, name, first, second):
        self.name = name
        self.first = first
        self.second = second


def check_lets(kinds, lets):
    """Returns for each name the kinds that are let to define it, ascending."""
    if not is_sequence(lets) or len(lets) != METHOD_NAMES:
        raise BadLets(0)
    for name, row in enumerate(lets):
        if not is_unlike_row(row, kinds.many):
            raise BadLets(name)
    return tuple([tuple(sorted(row)) for row in lets])


def lets_fault(world, kinds, given, lets):
    """The NotLet of the first class that defines a name that its kind is not let, or None."""
    check_given(world, kinds, given)
    rows = check_lets(kinds, lets)
    kept = check_kept(world, kinds, given)
    for c, methods in enumerate(world.methods):
        for name in methods:
            if kept[c] not in rows[name]:
                return NotLet(c, name)
    return None


def naming_fault(kinds, lets):
    """The TwoKinds of the least name that two joined kinds are let, or None."""
    for name, row in enumerate(check_lets(kinds, lets)):
        for first, second in kinds.joined:
            if first in row and second in row:
                return TwoKinds(name, first, second)
    return None


def naming_world(kinds, lets):
    """A world that keeps the kinds and the lets but has two answers, and its kinds; None if there is none."""
    fault = naming_fault(kinds, lets)
    if fault is None:
        return None
    root = ((), 0, (fault.name,))
    return World([root, root, ((0, 1), 0, ())]), (fault.first, fault.second, fault.first)


def table_kinds(kinds, lets):
    """The kinds with the same joins in which those that are let no name are bare."""
    rows = check_lets(kinds, lets)
    bare = [kind for kind in range(kinds.many) if len(names_let(rows, kind)) == 0]
    return Kinds(kinds.many, kinds.joined, bare)


def names_let(rows, kind):
    """The names that a kind is let to define, ascending."""
    return [name for name, row in enumerate(rows) if kind in row]


def table_ring_world(kinds, lets):
    """A world that keeps the kinds and the lets but has no close table laying, and its kinds; None if there is none."""
    rows = check_lets(kinds, lets)
    laid = table_kinds(kinds, rows)
    found = kind_sides(laid)
    if not isinstance(found, KindRing):
        return None
    world, given = ring_world(laid, found.ring)
    entries = []
    for c, bases in enumerate(world.bases):
        methods = names_let(rows, given[c])[:1] if world.owns[c] > 0 else []
        entries.append((bases, 0, methods))
    return World(entries), given

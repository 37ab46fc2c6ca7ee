"""Lots of classes that define a name: which are clear, and what is lacking where they are not."""

from headamid.definers import last_heirs
from headamid.elders import check_class
from headamid.stretches import check_lot
from headamid.worlds import METHOD_NAMES


def lot_answers(world, lot, c):
    """The answers of a class for a name that exactly the classes of the lot define, ascending."""
    row = check_lot(world, lot)
    return answers_among(world, row, check_class(world, c))


def answers_among(world, lot, c):
    """The classes of the lot among c and its elders that have no heir among these, ascending."""
    return last_heirs(world, [k for k in world.elders[c] + (c,) if k in lot])


def unclear_in(world, lot):
    """The classes that have two or more answers for the lot, ascending."""
    row = check_lot(world, lot)
    return tuple([c for c in range(len(world.classes)) if len(answers_among(world, row, c)) > 1])


def least_clear(world, lot):
    """The least clear lot that has all classes of the lot, ascending."""
    kept = check_lot(world, lot)
    # A class answers for its heirs alone, which come behind it: so none has to be looked at again.
    for c in range(len(world.classes)):
        if len(answers_among(world, kept, c)) > 1:
            kept = kept + (c,)
    return tuple(sorted(kept))


def missing_methods(world):
    """All couples of a class and a name that the world lacks for being clear, ascending."""
    found = []
    for name in range(METHOD_NAMES):
        lot = [c for c, methods in enumerate(world.methods) if name in methods]
        found.extend([(c, name) for c in least_clear(world, lot) if c not in lot])
    return tuple(sorted(found))

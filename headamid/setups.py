"""Setups: what a run by cells needs, and what is wrong with it."""

from headamid.elders import on_line
from headamid.errors import BadSetup
from headamid.ladders import MOST_HUE
from headamid.layings import FARTHEST, Laying, apart_fault
from headamid.tables import all_entries, entries_of, entry_places
from headamid.wholes import is_sequence, is_whole


class Setup:
    """A world with a laying, a place for each entry, and a hue for each class; it may be no good one."""

    def __init__(self, world, laying, table, hues):
        if not isinstance(laying, Laying) or laying.fields != world.all_fields:
            raise BadSetup("laying")
        if not is_row(table, len(all_entries(world)), -FARTHEST, FARTHEST) or 0 in table:
            raise BadSetup("table")
        if not is_row(hues, len(world.classes), 0, MOST_HUE):
            raise BadSetup("hues")
        self.world = world
        self.laying = laying
        self.table = tuple(table)
        self.hues = tuple(hues)


class SetupFault:
    """What is wrong with a setup: the class that shows it, and the cell, place or hue."""

    def __init__(self, what, cls, at):
        self.what = what
        self.cls = cls
        self.at = at


def is_row(thing, many, low, high):
    """Whether a thing is a sequence of so many whole numbers within these limits."""
    return is_sequence(thing) and len(thing) == many and all([is_whole(item, low, high) for item in thing])


def extends_setup(later, earlier):
    """Whether a setup has the classes of an earlier one, and all else of theirs is the same."""
    return (begins_with(later.world.classes, earlier.world.classes)
            and begins_with(later.laying.places, earlier.laying.places)
            and begins_with(later.table, earlier.table)
            and begins_with(later.hues, earlier.hues))


def begins_with(row, other):
    """Whether a row begins with the items of another one."""
    return row[:len(other)] == other


def setup_fault(setup):
    """The first SetupFault of a setup, or None."""
    shared = apart_fault(setup.world, setup.laying)
    if shared is not None:
        return SetupFault("field", shared.cls, shared.cell)
    fault = table_fault(setup)
    if fault is not None:
        return fault
    return hue_clash(setup)


def table_fault(setup):
    """The SetupFault of the first class with entries of unlike names at one table place, or None."""
    places = entry_places(setup.world, setup.table)
    for c in range(len(setup.world.classes)):
        entries = entries_of(setup.world, c)
        found = [places[one] for one in entries for other in entries
                 if places[one] == places[other] and one[1] != other[1]]
        if len(found) > 0:
            return SetupFault("table", c, min(found))
    return None


def hue_clash(setup):
    """The SetupFault of the first class that has, with its elders, two classes of a hue not on one line, or None."""
    hues = setup.hues
    for c in range(len(setup.world.classes)):
        among = setup.world.elders[c] + (c,)
        found = [hues[one] for one in among for other in among
                 if hues[one] == hues[other] and not on_line(setup.world, one, other)]
        if len(found) > 0:
            return SetupFault("hue", c, min(found))
    return None

"""Programs that show what is wrong with a setup: they run otherwise by cells than by name."""

from headamid.bycells import depth_in
from headamid.elders import fields_of
from headamid.setups import setup_fault
from headamid.tables import entries_of, entry_places


def parting_program(setup):
    """The steps of a program that runs otherwise by cells than by name, or None if there is none."""
    fault = setup_fault(setup)
    if fault is None:
        return None
    if fault.what == "field":
        return parting_fields(setup, fault.cls, fault.at)
    if fault.what == "table":
        return parting_call(setup, fault.cls, fault.at)
    return parting_test(setup, fault.cls, fault.at)


def parting_fields(setup, c, cell):
    """Steps that put into one field of a class and get from another one in the same cell."""
    shared = [field for field in fields_of(setup.world, c) if setup.laying.place_of(field) == cell]
    return ("make", c, c), ("put", 0, shared[0], 1), ("get", 0, shared[1])


def parting_call(setup, c, place):
    """Steps that call a method of a class which its table answers for another name."""
    places = entry_places(setup.world, setup.table)
    shared = [entry for entry in entries_of(setup.world, c) if places[entry] == place]
    # Within the class of the entry itself no other entry has its name: so the call takes this place.
    view, name = [entry for entry in shared if entry[1] != shared[-1][1]][0]
    return ("make", c, view), ("call", 0, name)


def parting_test(setup, c, hue):
    """Steps that test an object of a class for an elder whose place in the ladder another one took."""
    among = [k for k in setup.world.elders[c] + (c,) if setup.hues[k] == hue]
    depths = [depth_in(setup, k) for k in among]
    # Classes of one hue that are not all on one line have two of one depth; the ladder holds the greatest.
    hidden = [k for at, k in enumerate(among) if depths[at] in depths[at + 1:]]
    return ("make", c, c), ("test", 0, hidden[0])

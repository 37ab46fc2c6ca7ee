"""Tables of methods: their entries are laid as fields are."""

from headamid.definers import answers_of, check_name, defining_of, definer_of
from headamid.elders import check_class
from headamid.errors import NoEntry, NoMethod, NotView
from headamid.layings import cells_of
from headamid.rings import laid_world
from headamid.wholes import is_whole_couple
from headamid.worlds import World

HEAD = "head"


def all_entries(world):
    """All entries: the couples of a class and a name that it defines and no elder of it does, ascending."""
    return tuple([(c, name) for c, methods in enumerate(world.methods) for name in methods
                  if defining_of(world, c, name) == (c,)])


def entries_of(world, c):
    """The entries of a class and of its elders, ascending."""
    among = world.elders[check_class(world, c)] + (c,)
    return tuple([entry for entry in all_entries(world) if entry[0] in among])


def entry_world(world):
    """The world of the same classes in which each has a field for each of its own entries, and no methods."""
    owners = [c for c, _ in all_entries(world)]
    return World([(bases, owners.count(c), ()) for c, bases in enumerate(world.bases)])


def entry_field(world, entry):
    """The field of the entry world that stands for an entry."""
    entries = all_entries(world)
    if not is_whole_couple(entry) or tuple(entry) not in entries:
        raise NoEntry(entry)
    return entry_world(world).all_fields[entries.index(tuple(entry))]


def table_laid(world):
    """A close table laying of the world, or an odd ring of the entry world."""
    return laid_world(entry_world(world))


def entry_places(world, places):
    """The place of each entry, by the places in the order of the entries."""
    return {entry: place for entry, place in zip(all_entries(world), places)}


def table_row(world, laying, c):
    """For each cell of the table of c the entries that lie there with their answers, "head" for cell 0."""
    longer = entry_world(world)
    entries = {field: entry for field, entry in zip(longer.all_fields, all_entries(world))}
    row = []
    for fields in cells_of(longer, laying, c):
        if fields == HEAD:
            row.append(HEAD)
        else:
            row.append(tuple([(entries[field], answers_of(world, c, entries[field][1])) for field in fields]))
    return tuple(row)


def call_by_table(world, laying, view, c, name):
    """The class that a call of the name finds in the table of c if it knows the view alone."""
    check_class(world, view)
    check_class(world, c)
    check_name(name)
    if view != c and view not in world.elders[c]:
        raise NotView(view, c)
    named = [entry for entry in entries_of(world, view) if entry[1] == name]
    if len(named) == 0:
        raise NoMethod(view, name)
    places = entry_places(world, laying.places)
    found = [entry for entry in entries_of(world, c) if places[entry] == places[named[0]]]
    return definer_of(world, c, found[-1][1])

"""Edits: changes of a world by which classes keep their numbers."""

from headamid.errors import BadEdit, BadEdits
from headamid.wholes import has_form, is_sequence, is_whole
from headamid.worlds import MOST_CLASSES, MOST_FIELDS, MOST_METHODS, METHOD_NAMES, World, entry_fault

# Each form of an edit is its word and its number of items.
FORMS = (
    ("field", 2), ("unfield", 2), ("method", 3), ("unmethod", 3),
    ("base", 4), ("unbase", 3), ("class", 4), ("unclass", 1),
)


def is_edit(thing):
    """Whether a thing has one of the forms of an edit."""
    return has_form(thing, FORMS)


def edit_fault(world, edit):
    """The word for what is wrong with an edit of the world, or None."""
    if not is_edit(edit):
        return "form"
    if edit[0] == "class":
        return new_class_fault(world, edit)
    if edit[0] == "unclass":
        return "many" if len(world.classes) == 1 else None
    if not is_whole(edit[1], 0, len(world.classes) - 1):
        return "class"
    if edit[0] == "field":
        return "many" if world.owns[edit[1]] == MOST_FIELDS else None
    if edit[0] == "unfield":
        return "many" if world.owns[edit[1]] == 0 else None
    if edit[0] == "method" or edit[0] == "unmethod":
        return method_fault(world, edit)
    return base_fault(world, edit)


def new_class_fault(world, edit):
    """The word for what is wrong with a class more, or None."""
    many = len(world.classes)
    if many == MOST_CLASSES:
        return "many"
    return None if entry_fault(edit[1:], many) is None else "class"


def method_fault(world, edit):
    """The word for what is wrong with a method more or less, or None."""
    word, c, name = edit
    if not is_whole(name, 0, METHOD_NAMES - 1):
        return "name"
    if (name in world.methods[c]) == (word == "method"):
        return "method"
    return "many" if word == "method" and len(world.methods[c]) == MOST_METHODS else None


def base_fault(world, edit):
    """The word for what is wrong with a base more or less, or None."""
    c, base = edit[1:3]
    bases = world.bases[c]
    if not is_whole(base, 0, c - 1) or (base in bases) == (edit[0] == "base"):
        return "base"
    return "place" if edit[0] == "base" and not is_whole(edit[3], 0, len(bases)) else None


def edited_world(world, edit):
    """The world after an edit."""
    what = edit_fault(world, edit)
    if what is not None:
        raise BadEdit(what)
    if edit[0] == "class":
        return world.with_class(edit[1], edit[2], edit[3])
    if edit[0] == "unclass":
        return world.without_last()
    c = edit[1]
    return World(world.classes[:c] + (edited_entry(world.classes[c], edit),) + world.classes[c + 1:])


def edited_entry(entry, edit):
    """The entry of a class after an edit of this class."""
    bases, fields, methods = entry
    if edit[0] == "field":
        return bases, fields + 1, methods
    if edit[0] == "unfield":
        return bases, fields - 1, methods
    if edit[0] == "method":
        return bases, fields, methods + (edit[2],)
    if edit[0] == "unmethod":
        return bases, fields, tuple([name for name in methods if name != edit[2]])
    if edit[0] == "base":
        return bases[:edit[3]] + (edit[2],) + bases[edit[3]:], fields, methods
    return tuple([base for base in bases if base != edit[2]]), fields, methods


def edited_all(world, edits):
    """The last world when the edits are made in order."""
    if not is_sequence(edits):
        raise BadEdits(0, "edits")
    last = World(world.classes)
    for index, edit in enumerate(edits):
        what = edit_fault(last, edit)
        if what is not None:
            raise BadEdits(index, what)
        last = edited_world(last, edit)
    return last


def undo_of(world, edit):
    """The edit that leads from the edited world back."""
    what = edit_fault(world, edit)
    if what is not None:
        raise BadEdit(what)
    word = edit[0]
    if word == "class":
        return ("unclass",)
    if word == "unclass":
        return ("class",) + world.classes[-1]
    if word == "unbase":
        return "base", edit[1], edit[2], world.bases[edit[1]].index(edit[2])
    if word == "base":
        return "unbase", edit[1], edit[2]
    other = word[2:] if word.startswith("un") else "un" + word
    return (other,) + tuple(edit[1:])


def moved_fields(laying, later):
    """The fields that both layings have and whose places differ, ascending."""
    places = {field: place for field, place in zip(later.fields, later.places)}
    return tuple([field for field, place in zip(laying.fields, laying.places) if places.get(field, place) != place])

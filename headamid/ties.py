"""Ties: which fields lie on one side of the head, and which on two."""

from headamid.elders import common_heirs, fields_of


class Tie:
    """Two fields that are tied alike or unlike, and the classes that make the tie."""

    def __init__(self, first, second, sense, a, b, heir):
        self.first = first
        self.second = second
        self.sense = sense
        self.a = a
        self.b = b
        self.heir = heir


def alone_fields(world, a, b):
    """The fields of a that are no fields of b, ascending."""
    mine = fields_of(world, a)
    others = fields_of(world, b)
    return tuple([field for field in mine if field not in others])


def all_ties(world):
    """All ties of the world, by first, second and sense."""
    many = len(world.classes)
    found = {}
    for a in range(many):
        for b in range(a + 1, many):
            heirs = common_heirs(world, a, b)
            if len(heirs) > 0:
                note_ties(found, world, a, b, heirs[0])
    return ties_in_order(found)


def base_ties(world):
    """The ties that are made by two bases of one class, by first, second and sense."""
    found = {}
    for heir, bases in enumerate(world.bases):
        row = sorted(bases)
        for k, a in enumerate(row):
            for b in row[k + 1:]:
                note_ties(found, world, a, b, heir)
    return ties_in_order(found)


def note_ties(found, world, a, b, heir):
    """Adds the ties that a and b make to those found, but keeps ties that are there already."""
    mine = alone_fields(world, a, b)
    others = alone_fields(world, b, a)
    if len(mine) == 0 or len(others) == 0:
        return
    both = sorted(mine + others)
    for k, first in enumerate(both):
        for second in both[k + 1:]:
            sense = "alike" if (first in mine) == (second in mine) else "unlike"
            if (first, second, sense) not in found:
                found[(first, second, sense)] = Tie(first, second, sense, a, b, heir)


def ties_in_order(found):
    """The ties that are found, in the order of their fields and senses."""
    return tuple([found[key] for key in sorted(found)])


def bound_classes(world):
    """The classes whose own fields stand in ties, ascending."""
    found = {}
    for tie in all_ties(world):
        found[tie.first[0]] = True
        found[tie.second[0]] = True
    return tuple(sorted(found))


def pieces_of(world):
    """The pieces: lots of fields that hang together by ties, by their first fields."""
    lead = {field: field for field in world.all_fields}
    for tie in all_ties(world):
        one, other = lead[tie.first], lead[tie.second]
        if one != other:
            lead = {field: one if lead[field] == other else lead[field] for field in lead}
    pieces = {}
    for field in world.all_fields:
        pieces.setdefault(lead[field], []).append(field)
    return tuple([tuple(pieces[key]) for key in pieces])

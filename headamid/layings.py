"""Layings: a place for each field, and the cells that the fields of a class take."""

from headamid.elders import fields_of
from headamid.errors import BadLaying, BadWorld, NoField
from headamid.wholes import is_sequence, is_unlike_row, is_whole, is_whole_couple

FARTHEST = 99


class Laying:
    """The places of all fields of a world, which never change."""

    def __init__(self, world, places):
        fields = world.all_fields
        if not is_sequence(places) or len(places) != len(fields):
            raise BadLaying(0)
        for index, place in enumerate(places):
            if not is_whole(place, -FARTHEST, FARTHEST) or place == 0:
                raise BadLaying(index)
        self.fields = fields
        self.places = tuple(places)

    def place_of(self, field):
        """The place of a field."""
        if not is_whole_couple(field) or tuple(field) not in self.fields:
            raise NoField(field)
        return self.places[self.fields.index(tuple(field))]

    def side_words(self):
        """The sides of the fields, in ascending order of the fields."""
        return tuple(["up" if place > 0 else "down" for place in self.places])

    def __eq__(self, other):
        return isinstance(other, Laying) and self.fields == other.fields and self.places == other.places


class Shared:
    """A cell of a class in which two or more fields lie."""

    def __init__(self, cls, cell):
        self.cls = cls
        self.cell = cell


class Hole:
    """A cell within the stretch of a class in which nothing lies."""

    def __init__(self, cls, cell):
        self.cls = cls
        self.cell = cell


def mirrored_laying(world, laying):
    """The laying with each place changed in sign."""
    return Laying(world, [-place for place in laying.places])


def extent_of(world, laying, c):
    """The least and the greatest cell of an object of class c; the head is in cell 0."""
    cells = [0] + [laying.place_of(field) for field in fields_of(world, c)]
    return min(cells), max(cells)


def cells_of(world, laying, c):
    """For each cell of the stretch of c the fields of c that lie there, "head" for cell 0."""
    least, greatest = extent_of(world, laying, c)
    rows = {cell: [] for cell in range(least, greatest + 1)}
    for field in fields_of(world, c):
        rows[laying.place_of(field)].append(field)
    return tuple(["head" if cell == 0 else tuple(rows[cell]) for cell in rows])


def cell_fault(world, laying, c):
    """Shared or Hole for the least cell of c that is shared or a hole, or None."""
    cell, _ = extent_of(world, laying, c)
    for fields in cells_of(world, laying, c):
        if cell != 0 and len(fields) == 0:
            return Hole(c, cell)
        if cell != 0 and len(fields) > 1:
            return Shared(c, cell)
        cell = cell + 1
    return None


def close_fault(world, laying):
    """None if the laying is close, otherwise the first fault of the first class that has one."""
    for c in range(len(world.classes)):
        fault = cell_fault(world, laying, c)
        if fault is not None:
            return fault
    return None


def apart_fault(world, laying):
    """None if no class has a shared cell, otherwise the least one of the first class that has one."""
    for c in range(len(world.classes)):
        places = [laying.place_of(field) for field in fields_of(world, c)]
        shared = [place for place in places if places.count(place) > 1]
        if len(shared) > 0:
            return Shared(c, min(shared))
    return None


def misfit_of(world, laying, bases):
    """The first two of the bases that have unlike fields in one place, or None."""
    many = len(world.classes)
    if not is_unlike_row(bases, many):
        raise BadWorld(many, "base")
    row = sorted(bases)
    for k, a in enumerate(row):
        for b in row[k + 1:]:
            if have_misfit(world, laying, a, b):
                return a, b
    return None


def have_misfit(world, laying, a, b):
    """Whether a field of a and an unlike field of b have one place."""
    others = {}
    for field in fields_of(world, b):
        others.setdefault(laying.place_of(field), []).append(field)
    for field in fields_of(world, a):
        for other in others.get(laying.place_of(field), []):
            if field != other:
                return True
    return False

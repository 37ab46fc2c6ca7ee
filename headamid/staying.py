"""Edits of a world by which fields keep their places, or as few as can be are moved."""

from headamid.edits import edited_world, moved_fields
from headamid.elders import fields_of
from headamid.errors import NotClose, TooMany
from headamid.layings import Laying, close_fault, extent_of
from headamid.rings import all_layings, count_layings

MOST_LAYINGS = 720


class Moved:
    """The least number of moved fields, and the first close laying that has it."""

    def __init__(self, number, laying):
        self.number = number
        self.laying = laying


def check_close(world, laying):
    """Raises NotClose if the laying is not close."""
    fault = close_fault(world, laying)
    if fault is not None:
        raise NotClose(fault.cls, fault.cell)


def free_sides(world, laying, c):
    """The sides of a class on which no heir has a field beyond those of the class, "up" before "down"."""
    return sides_by(extent_of(world, laying, c), [extent_of(world, laying, heir) for heir in world.heirs[c]])


def sides_by(mine, others):
    """The sides on which no other extent goes beyond mine, "up" before "down"."""
    sides = []
    if all([greatest <= mine[1] for _, greatest in others]):
        sides.append("up")
    if all([least >= mine[0] for least, _ in others]):
        sides.append("down")
    return tuple(sides)


def stayed_laying(world, laying, edit):
    """A close laying of the edited world in which each field of both worlds keeps its place, or None."""
    check_close(world, laying)
    later = edited_world(world, edit)
    places = {field: place for field, place in zip(laying.fields, laying.places)}
    for field in later.all_fields:
        if field not in places:
            place = outer_place(later, places, field[0])
            if place is None:
                return None
            places[field] = place
    stayed = Laying(later, [places[field] for field in later.all_fields])
    return stayed if close_fault(later, stayed) is None else None


def outer_place(world, places, c):
    """The place next to the cells of c on its first free side, None if no side is free."""
    mine = reach_by(world, places, c)
    sides = sides_by(mine, [reach_by(world, places, heir) for heir in world.heirs[c]])
    if len(sides) == 0:
        return None
    return mine[1] + 1 if sides[0] == "up" else mine[0] - 1


def reach_by(world, places, c):
    """The least and the greatest cell of the head and of those fields of c that have places."""
    cells = [0] + [places[field] for field in fields_of(world, c) if field in places]
    return min(cells), max(cells)


def least_moved(world, laying, edit):
    """The Moved of the first close laying of the edited world that moves the fewest fields, None if there is none."""
    check_close(world, laying)
    later = edited_world(world, edit)
    count = count_layings(later)
    if count > MOST_LAYINGS:
        raise TooMany(count)
    best = None
    for found in all_layings(later):
        number = len(moved_fields(laying, found))
        if best is None or number < best.number:
            best = Moved(number, found)
    return best

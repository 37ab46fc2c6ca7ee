"""Hues by kinds, by sides and by layings."""

from headamid.declaring import may_meet
from headamid.elders import on_line
from headamid.errors import NoClass, Unsafe
from headamid.kinds import KindRing, check_kept, kind_sides
from headamid.ladders import Ladders, check_hues, first_hues

UP_HUE = 0
DOWN_HUE = 1


def side_hues(world, kinds, given):
    """For each class the hue of the side of its kind, None for a bare one."""
    row = check_kept(world, kinds, given)
    found = kind_sides(kinds)
    if isinstance(found, KindRing):
        raise Unsafe(found.ring)
    return hues_by_side(kinds, row, found.sides)


def hues_by_side(kinds, given, sides):
    """For each class the hue of its kind by a row of kind sides."""
    return tuple([None if kinds.is_bare(kind) else side_hue(sides[kind] == "up") for kind in given])


def side_hue(is_up):
    """The hue of a side."""
    return UP_HUE if is_up else DOWN_HUE


def declared_ladders(declaring):
    """The ladders of the classes declared, with the hues of the sides of their kinds."""
    if declaring.world_now is None:
        raise NoClass(0)
    return Ladders(declaring.world_now, hues_by_side(declaring.kinds, declaring.given_now, declaring.sides))


def hue_meeting(declaring, hues):
    """The first two classes of one hue that are not on one line and may still meet, or None."""
    world = declaring.world_now
    if world is None:
        raise NoClass(0)
    row = check_hues(world, hues)
    for a in range(len(row)):
        for b in range(a + 1, len(row)):
            if row[a] is not None and row[a] == row[b] and not on_line(world, a, b) and may_meet(declaring, a, b):
                return a, b
    return None


def kind_hues(kinds):
    """The first hues for the kinds, as few as there can be, in which joined kinds have unlike hues."""
    return first_hues(kinds.joined, kinds.many)


def hues_by_kind(world, kinds, given):
    """For each class the hue that kind_hues gives its kind."""
    row = check_kept(world, kinds, given)
    hues = kind_hues(kinds)
    return tuple([hues[kind] for kind in row])


def laying_hues(world, laying):
    """For each class the hue of the side of its own field 0, None without own fields."""
    return tuple([None if many == 0 else side_hue(laying.place_of((c, 0)) > 0) for c, many in enumerate(world.owns)])

"""Classes declared one by one, whose fields get places that never change."""

from headamid.elders import check_class, own_fields
from headamid.errors import NoClass, SideClash, Unsafe
from headamid.kinds import (
    KindRing, check_kept, check_kind, check_kind_sides, kept_fault, kind_sides, pair_fault, side_clash,
)
from headamid.layings import Laying
from headamid.worlds import World


class Declaring:
    """The classes declared so far, with their kinds and their laying."""

    def __init__(self, kinds, sides=None):
        found = kind_sides(kinds)
        if isinstance(found, KindRing):
            raise Unsafe(found.ring)
        row = found.sides if sides is None else check_kind_sides(kinds, sides)
        clash = side_clash(kinds, row)
        if clash is not None:
            raise SideClash(clash[0], clash[1])
        self.kinds = kinds
        self.sides = row
        self._world = None
        self._given = ()
        self._laying = None

    @property
    def world_now(self):
        """The world of the classes declared, None if there is none."""
        return self._world

    @property
    def given_now(self):
        """The kinds of the classes declared."""
        return self._given

    @property
    def laying_now(self):
        """The laying of the classes declared, None if there is none."""
        return self._laying

    @property
    def places_now(self):
        """The places of the fields of the classes declared."""
        if self._laying is None:
            return ()
        return self._laying.places

    def declare(self, bases, fields, *, kind):
        """Puts in a class without methods and returns its number."""
        world = world_behind(self, bases, fields)
        given = self._given + (check_kind(self.kinds, kind),)
        check_kept(world, self.kinds, given)
        c = len(self._given)
        places = self.places_now + outward_places(world, self._laying, c, self.sides[kind])
        self._laying = Laying(world, places)
        self._world = world
        self._given = given
        return c

    def begin_with(self, world, given, laying):
        """Takes classes over that are laid already, for go_on_from: their laying must last with these sides."""
        self._world = world
        self._given = given
        self._laying = laying

    def __len__(self):
        return len(self._given)


def world_behind(declaring, bases, fields):
    """The world of the classes declared with one class more."""
    if declaring.world_now is None:
        return World([(bases, fields, ())])
    return declaring.world_now.with_class(bases, fields, ())


def outward_places(world, laying, c, side):
    """The places of the own fields of the last class: outside of all others of it on their side."""
    way = 1 if side == "up" else -1
    reach = 0
    for elder in world.elders[c]:
        for field in own_fields(world, elder):
            reach = max(reach, laying.place_of(field) * way)
    return tuple([(reach + i + 1) * way for i in range(world.owns[c])])


def kinds_for(declaring, bases, fields):
    """The kinds with which the class could be declared, ascending."""
    world = world_behind(declaring, bases, fields)
    kinds = declaring.kinds
    given = declaring.given_now
    return tuple([kind for kind in range(kinds.many) if kept_fault(world, kinds, given + (kind,)) is None])


def may_meet(declaring, a, b):
    """Whether a common heir of both classes may still be declared, if there is room for it."""
    world = declaring.world_now
    if world is None:
        raise NoClass(a)
    check_class(world, a)
    check_class(world, b)
    among = sorted(set(world.elders[a] + world.elders[b] + (a, b)))
    for k, first in enumerate(among):
        for second in among[k + 1:]:
            if pair_fault(world, declaring.kinds, declaring.given_now, first, second) is not None:
                return False
    return True

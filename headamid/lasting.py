"""Layings that last: close ones that can stand whatever classes are still to come."""

from math import factorial

from headamid.declaring import Declaring
from headamid.elders import check_class
from headamid.errors import NotLasting, Unsafe
from headamid.kinds import KindRing, check_kept, kind_sides, laid_joins
from headamid.layings import close_fault


class Fleeting:
    """Why a laying does not last, and the two classes that show it."""

    def __init__(self, what, first, second):
        self.what = what
        self.first = first
        self.second = second


def tie_to_come(world, kinds, given, c):
    """Whether the own fields of a class stand in a tie in some world to come."""
    row = check_kept(world, kinds, given)
    check_class(world, c)
    return world.owns[c] > 0 and len(tying_kinds(world, kinds, row, c)) > 0


def tying_kinds(world, kinds, given, c):
    """The kinds of classes to come that can have a common heir with c and a field that c has not."""
    return [kind for kind in range(kinds.many)
            if not kinds.is_bare(kind) and kinds.are_joined(kind, given[c])
            and all([kind == given[elder] or kinds.are_joined(kind, given[elder]) for elder in world.elders[c]])]


def tied_classes(world, kinds, given):
    """The classes with tie_to_come, ascending."""
    return [c for c in range(len(world.classes)) if tie_to_come(world, kinds, given, c)]


def piece_leads(kinds):
    """For each kind the least kind of its piece."""
    leads = list(range(kinds.many))
    for one, other in laid_joins(kinds):
        low = min(leads[one], leads[other])
        high = max(leads[one], leads[other])
        leads = [low if lead == high else lead for lead in leads]
    return leads


def lasting_fault(world, kinds, given, laying):
    """None if the laying lasts, otherwise a Fleeting."""
    row = check_kept(world, kinds, given)
    found = kind_sides(kinds)
    if isinstance(found, KindRing):
        return Fleeting("ring", None, None)
    if close_fault(world, laying) is not None:
        return Fleeting("close", None, None)
    tied = tied_classes(world, kinds, row)
    for k, c in enumerate(tied):
        if len(own_sides(world, laying, c)) > 1:
            return Fleeting("split", c, c)
        for elder in tied[:k]:
            if not is_fit(world, kinds, row, laying, (elder, c)):
                return Fleeting("sides", elder, c)
    return None


def own_sides(world, laying, c):
    """The sides on which the own fields of c lie, each once."""
    sides = [side for field, side in zip(laying.fields, laying.side_words()) if field[0] == c]
    return sorted(set(sides))


def is_fit(world, kinds, given, laying, couple):
    """Whether some row of kind sides without a clash agrees with the fields of these two unsplit classes."""
    first, second = couple
    leads = piece_leads(kinds)
    if leads[given[first]] != leads[given[second]]:
        return True
    return is_turned(world, kinds, given, laying, first) == is_turned(world, kinds, given, laying, second)


def is_turned(world, kinds, given, laying, c):
    """Whether the own fields of an unsplit class lie on another side than kind_sides tells for its kind."""
    return own_sides(world, laying, c) != [kind_sides(kinds).sides[given[c]]]


def count_lasting(world, kinds, given):
    """The number of layings that last."""
    row = check_kept(world, kinds, given)
    if isinstance(kind_sides(kinds), KindRing):
        return 0
    tied = tied_classes(world, kinds, row)
    leads = piece_leads(kinds)
    number = 1
    for _ in sorted(set([leads[row[c]] for c in tied])):
        number = number * 2
    for c, many in enumerate(world.owns):
        number = number * factorial(many if c in tied else many + 1)
    return number


def go_on_from(world, kinds, given, laying):
    """A Declaring that goes on with these classes, whose laying lasts."""
    row = check_kept(world, kinds, given)
    found = kind_sides(kinds)
    if isinstance(found, KindRing):
        raise Unsafe(found.ring)
    fault = lasting_fault(world, kinds, row, laying)
    if fault is not None:
        raise NotLasting(fault.what, fault.first, fault.second)
    declaring = Declaring(kinds, turned_sides(world, kinds, row, laying))
    declaring.begin_with(world, row, laying)
    return declaring


def turned_sides(world, kinds, given, laying):
    """The row of kind_sides, turned in each piece in which the tied classes lie on the other side."""
    leads = piece_leads(kinds)
    turned = [leads[given[c]] for c in tied_classes(world, kinds, given)
              if is_turned(world, kinds, given, laying, c)]
    sides = kind_sides(kinds).sides
    return tuple([other_side(side) if leads[kind] in turned else side for kind, side in enumerate(sides)])


def other_side(side):
    """The side across the head."""
    return "down" if side == "up" else "up"

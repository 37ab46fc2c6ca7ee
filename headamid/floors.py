"""Lots of classes that cannot all be without holes, and what they cost at least."""

from headamid.errors import TooMany
from headamid.holes import check_hole_bound, check_weights, class_holes, least_holes
from headamid.stretches import check_lot

MOST_CLASSES_FOR_LOTS = 6
MOST_FIELDS_FOR_LOTS = 5


class Holed:
    """The least summed weight of classes with a hole, these classes, and a laying in which just they have one."""

    def __init__(self, number, classes, laying):
        self.number = number
        self.classes = classes
        self.laying = laying


class Floor:
    """Blocked lots without a common class, and what they cost together at least."""

    def __init__(self, number, lots):
        self.number = number
        self.lots = lots


def is_blocked(world, lot):
    """Whether every laying has a hole in some class of the lot."""
    classes = check_lot(world, lot)
    check_hole_bound(world)
    return least_for_lot(world, classes).number > 0


def least_for_lot(world, lot):
    """The Least of all layings if only the holes in these classes count."""
    return least_holes(world, [1 if c in lot else 0 for c in range(len(world.classes))])


def check_lot_bounds(world):
    """Raises TooMany if the world has too many classes or fields for going through its lots."""
    if len(world.classes) > MOST_CLASSES_FOR_LOTS:
        raise TooMany(len(world.classes))
    if len(world.all_fields) > MOST_FIELDS_FOR_LOTS:
        raise TooMany(len(world.all_fields))


def blocked_lots(world):
    """The blocked lots that hold no other blocked lot: the shorter ones first, those of one length ascending."""
    check_lot_bounds(world)
    found = []
    for lot in lots_by_length(len(world.classes)):
        if not any([is_within(elder, lot) for elder in found]) and is_blocked(world, lot):
            found.append(lot)
    return tuple(found)


def lots_by_length(many):
    """All lots of many classes: the shorter ones first, those of one length ascending."""
    lots = [()]
    for c in range(many):
        lots = lots + [lot + (c,) for lot in lots]
    rows = sorted([(len(lot), lot) for lot in lots])
    return [lot for _, lot in rows]


def is_within(lot, other):
    """Whether each class of a lot is a class of the other lot."""
    return all([c in other for c in lot])


def is_disjoint(lot, other):
    """Whether two lots have no class in common."""
    return not any([c in other for c in lot])


def ring_lot(ring):
    """The unlike classes a and b of the ties of a ring, ascending."""
    return tuple(sorted(set([tie.a for tie in ring] + [tie.b for tie in ring])))


def fewest_holed(world, weights):
    """The Holed of a laying for which the summed weight of the classes with a hole is least."""
    row = check_weights(world, weights)
    check_lot_bounds(world)
    blocked = blocked_lots(world)
    met = [lot for lot in lots_by_length(len(row)) if not any([is_disjoint(lot, other) for other in blocked])]
    _, holed = min([(sum([row[c] for c in lot]), lot) for lot in met])
    # The other classes hold no blocked lot: some laying has no hole in any of them.
    laying = least_for_lot(world, [c for c in range(len(row)) if c not in holed]).laying
    classes = tuple([c for c, many in enumerate(class_holes(world, laying)) if many > 0])
    return Holed(sum([row[c] for c in classes]), classes, laying)


def floor_of_holes(world, weights):
    """The Floor of the blocked lots without a common class that cost most together."""
    row = check_weights(world, weights)
    check_lot_bounds(world)
    packs = [()]
    for lot in blocked_lots(world):
        packs = packs + [pack + (lot,) for pack in packs if all([is_disjoint(lot, other) for other in pack])]
    number, lots = max([(pack_cost(row, pack), pack) for pack in packs])
    return Floor(number, lots)


def pack_cost(weights, pack):
    """The sum over some lots of the least weight in each."""
    return sum([min([weights[c] for c in lot]) for lot in pack])

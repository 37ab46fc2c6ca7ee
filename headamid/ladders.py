"""Hues of classes, and the ladders in which one look tells whether an object is of a class."""

from headamid.elders import check_class, common_heirs, on_line
from headamid.errors import BadHues, NoHue, NoLadder, NotLine, TooMany
from headamid.wholes import is_sequence, is_whole

MOST_HUE = 7
MOST_FOR_HUES = 8


class Clash:
    """Two classes of one hue that are not on one line, and the class that has both."""

    def __init__(self, cls, first, second):
        self.cls = cls
        self.first = first
        self.second = second


class Look:
    """One look into a ladder: where it looks, what stands there, and the answer."""

    def __init__(self, hue, place, found, answer):
        self.hue = hue
        self.place = place
        self.found = found
        self.answer = answer


class Ladders:
    """A world with right hues: each class has a ladder for each hue."""

    def __init__(self, world, hues):
        fault = hue_fault(world, hues)
        if fault is not None:
            raise NotLine(fault.cls, fault.first, fault.second)
        self.world = world
        self.hues = tuple(hues)

    def ladder_of(self, c, hue):
        """The classes of a hue among c and its elders, each elder ahead of its heirs."""
        check_class(self.world, c)
        if not is_whole(hue, 0, MOST_HUE):
            raise NoHue(hue)
        # They are on one line, and each class has a greater number than its elders.
        return tuple([k for k in self.world.elders[c] + (c,) if self.hues[k] == hue])

    def depth_of(self, target):
        """The place of a class in its own ladder."""
        check_class(self.world, target)
        hue = self.hues[target]
        if hue is None:
            raise NoLadder(target)
        return len(self.ladder_of(target, hue)) - 1

    def one_look(self, c, target):
        """Tells by one look whether c is the target or an heir of it."""
        check_class(self.world, c)
        place = self.depth_of(target)
        hue = self.hues[target]
        ladder = self.ladder_of(c, hue)
        found = ladder[place] if place < len(ladder) else None
        return Look(hue, place, found, found == target)

    def clash_of(self, bases):
        """The Clash of a new class with these bases, or None."""
        longer = self.world.with_class(bases, 0, ())
        c = len(self.world.classes)
        return clash_among(longer, self.hues, c, longer.elders[c])

    def with_class(self, bases, fields, methods, hue):
        """The ladders of the world with one class more, which has this hue."""
        longer = self.world.with_class(bases, fields, methods)
        if not is_hue(hue):
            raise BadHues(len(self.world.classes))
        clash = self.clash_of(bases)
        if clash is not None:
            raise NotLine(clash.cls, clash.first, clash.second)
        return Ladders(longer, self.hues + (hue,))


def is_hue(thing):
    """Whether a thing is a hue or None."""
    return thing is None or is_whole(thing, 0, MOST_HUE)


def check_hues(world, hues):
    """Returns the hues as a tuple if there is one, or None, for each class."""
    if not is_sequence(hues) or len(hues) != len(world.classes):
        raise BadHues(0)
    for index, hue in enumerate(hues):
        if not is_hue(hue):
            raise BadHues(index)
    return tuple(hues)


def hue_fault(world, hues):
    """The Clash of the first class that has one, None if the hues are right."""
    row = check_hues(world, hues)
    for c in range(len(world.classes)):
        clash = clash_among(world, row, c, world.elders[c] + (c,))
        if clash is not None:
            return clash
    return None


def clash_among(world, hues, c, among):
    """The Clash of class c by the first two of some classes that have one hue and are not on one line, or None."""
    for k, first in enumerate(among):
        for second in among[k + 1:]:
            if hues[first] is not None and hues[first] == hues[second] and not on_line(world, first, second):
                return Clash(c, first, second)
    return None


def apart_pairs(world):
    """The couples of classes that are not on one line and have a common heir, ascending."""
    many = len(world.classes)
    return tuple([(a, b) for a in range(many) for b in range(a + 1, many)
                  if not on_line(world, a, b) and len(common_heirs(world, a, b)) > 0])


def fewest_hues(world):
    """The first right hues, a number for each class, of those that use the fewest numbers."""
    many = len(world.classes)
    if many > MOST_FOR_HUES:
        raise TooMany(many)
    return first_hues(apart_pairs(world), many)


def first_hues(pairs, many):
    """The first hues for many things, as few as there can be, in which no pair has one hue."""
    for k in range(1, many + 1):
        row = first_row(pairs, many, k, ())
        if row is not None:
            return row
    return None


def first_row(pairs, many, k, row):
    """The first row of hues below k that begins with this row and in which no pair has one hue, or None."""
    if len(row) == many:
        return row
    barred = [row[a] for a, b in pairs if b == len(row)]
    for hue in range(k):
        if hue not in barred:
            found = first_row(pairs, many, k, row + (hue,))
            if found is not None:
                return found
    return None


def floor_lot(world):
    """The first of the greatest lots of classes each two of which are apart."""
    many = len(world.classes)
    if many > MOST_FOR_HUES:
        raise TooMany(many)
    pairs = apart_pairs(world)
    lot = (0,)
    longer = [(c,) for c in range(many)]
    while len(longer) > 0:
        lot = longer[0]
        longer = longer_lots(pairs, longer, many)
    return lot


def longer_lots(pairs, lots, many):
    """The lots with one class more, behind the others and apart from each of them, in the same order."""
    return [lot + (c,) for lot in lots for c in range(lot[-1] + 1, many) if all([(k, c) in pairs for k in lot])]

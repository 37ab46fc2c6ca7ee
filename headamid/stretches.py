"""Rows of classes in which each class and its heirs stand next to one another."""

from headamid.elders import check_class
from headamid.errors import BadLot, BadOrder, NoGap, NotJoined, NotStretch, TooMany
from headamid.kinds import check_kind
from headamid.wholes import is_order, is_sequence, is_whole
from headamid.worlds import World

MOST_FOR_ROWS = 7


class Gap:
    """A class whose lot is no stretch, and the first class between those of the lot."""

    def __init__(self, cls, between):
        self.cls = cls
        self.between = between


class Bars:
    """Classes whose lots are stretches together in no row."""

    def __init__(self, classes):
        self.classes = classes


class StretchRow:
    """A row in which each lot is a stretch, with the span of each class."""

    def __init__(self, world, row):
        fault = row_fault(world, row)
        if fault is not None:
            raise NotStretch(fault.cls, fault.between)
        self.world = world
        self.row = tuple(row)
        self.spans = tuple([span_of(world, row, c) for c in range(len(world.classes))])

    def span_test(self, c, target):
        """Whether the place of c lies in the span of the target."""
        check_class(self.world, c)
        check_class(self.world, target)
        least, greatest = self.spans[target]
        return least <= self.row.index(c) <= greatest

    def free_gaps(self, bases):
        """The gaps into which a new class with these bases can be put, ascending."""
        longer = self.world.with_class(bases, 0, ())
        return tuple([gap for gap in range(len(self.row) + 1) if row_fault(longer, row_with(self.row, gap)) is None])

    def put_class(self, bases, fields, methods, gap):
        """The row with a new class put into a gap."""
        longer = self.world.with_class(bases, fields, methods)
        if not is_whole(gap) or gap not in self.free_gaps(bases):
            raise NoGap(gap)
        return StretchRow(longer, row_with(self.row, gap))


def row_with(row, gap):
    """The row with the class whose number comes next put into a gap."""
    return row[:gap] + (len(row),) + row[gap:]


def lot_of(world, c):
    """The class and its heirs, ascending."""
    check_class(world, c)
    return (c,) + world.heirs[c]


def span_of(world, row, c):
    """The first and the last place of the lot of a class in a row."""
    places = [place for place, k in enumerate(row) if k in lot_of(world, c)]
    return places[0], places[-1]


def row_fault(world, row):
    """The Gap of the first class whose lot is no stretch, or None."""
    if not is_order(row, len(world.classes)):
        raise BadOrder()
    for c in range(len(world.classes)):
        first, last = span_of(world, row, c)
        for between in row[first:last]:
            if between not in lot_of(world, c):
                return Gap(c, between)
    return None


def check_row_bound(world):
    """Raises TooMany if the world has too many classes for going through its rows."""
    if len(world.classes) > MOST_FOR_ROWS:
        raise TooMany(len(world.classes))


def all_rows(world):
    """Yields all rows in which each lot is a stretch, ascending."""
    check_row_bound(world)
    lots = [lot_of(world, c) for c in range(len(world.classes))]
    yield from rows_behind(lots, len(lots), ())


def rows_behind(lots, many, row):
    """Yields all rows of many classes that begin with this row and in which each lot is a stretch, ascending."""
    if len(row) == many:
        yield row
    else:
        for c in followers(lots, many, row):
            longer = row + (c,)
            yield from rows_behind(lots, many, longer)


def followers(lots, many, row):
    """The classes that can come next, ascending: those that stand in each lot that has begun and not ended."""
    begun = [lot for lot in lots if any([c in row for c in lot]) and not all([c in row for c in lot])]
    return [c for c in range(many) if c not in row and all([c in lot for lot in begun])]


def check_lot(world, lot):
    """Returns the classes of a lot, ascending, each once."""
    if not is_sequence(lot):
        raise BadLot(0)
    for index, c in enumerate(lot):
        if not is_whole(c, 0, len(world.classes) - 1):
            raise BadLot(index)
    return tuple(sorted(set(lot)))


def is_barred(world, lot):
    """Whether no row has the lots of all these classes as stretches."""
    classes = check_lot(world, lot)
    check_row_bound(world)
    lots = [lot_of(world, c) for c in classes]
    return not has_row(lots, len(world.classes), ())


def has_row(lots, many, row):
    """Whether some row of many classes begins with this row and has each lot as a stretch."""
    if len(row) == many:
        return True
    for c in followers(lots, many, row):
        if has_row(lots, many, row + (c,)):
            return True
    return False


def stretch_row(world):
    """The first row in which each lot is a stretch, or the Bars if there is none."""
    for row in all_rows(world):
        return row
    return Bars(least_bars(world))


def least_bars(world):
    """The classes that stay when each class without which the others are still barred is left out in turn."""
    kept = tuple(range(len(world.classes)))
    for c in range(len(world.classes)):
        rest = tuple([k for k in kept if k != c])
        if is_barred(world, rest):
            kept = rest
    return kept


def join_pair(kinds):
    """The first two kinds that are joined, or None."""
    if len(kinds.joined) == 0:
        return None
    return kinds.joined[0]


def star_world(kinds, one, other):
    """A world that keeps the kinds, but has no row in which each lot is a stretch, and its kinds."""
    check_kind(kinds, one)
    check_kind(kinds, other)
    if not kinds.are_joined(one, other):
        raise NotJoined(one, other)
    entries = [((), bare_fields(kinds, one), ())]
    for _ in range(3):
        entries.append(((), bare_fields(kinds, other), ()))
    for ray in (1, 2, 3):
        entries.append(((0, ray), 0, ()))
    return World(entries), (one, other, other, other, one, one, one)


def bare_fields(kinds, kind):
    """The number of own fields of a class of the star: one if its kind may have fields."""
    return 0 if kinds.is_bare(kind) else 1

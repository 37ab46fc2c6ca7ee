"""Objects of parts: an elder has a part for each unlike cut way to it."""

from headamid.elders import check_class
from headamid.errors import BadStart, NoPart
from headamid.links import check_way, cut_way
from headamid.wholes import is_whole

HEAD = "head"


class Part:
    """A part of an object: its cut way, and the cell of its head."""

    def __init__(self, way, place):
        self.way = way
        self.place = place


def laid_cells(links, c):
    """The cells of an object in order: each the cut way of its part, and "head" or the index of an own field."""
    check_class(links.world, c)
    cells = []
    noted = [c]
    at = 0
    while at < len(noted):
        lay_block(links, (noted[at],), cells, noted)
        at = at + 1
    return cells


def lay_block(links, way, cells, noted):
    """Puts the block of a part behind the cells, and the bases of shared links that are new behind those noted."""
    c = way[-1]
    for base in links.world.bases[c]:
        if not links.is_shared(c, base):
            lay_block(links, way + (base,), cells, noted)
        elif base not in noted:
            noted.append(base)
    cells.append((way, HEAD))
    for index in range(links.world.owns[c]):
        cells.append((way, index))


def parts_of(links, c):
    """The parts of an object of a class, ascending by place."""
    return tuple([Part(way, place) for place, (way, what) in enumerate(laid_cells(links, c)) if what == HEAD])


def size_of(links, c):
    """The number of cells of an object of a class."""
    return len(laid_cells(links, c))


def copies_of(links, c, target):
    """The number of parts of class target in an object of class c."""
    check_class(links.world, c)
    check_class(links.world, target)
    return len([part for part in parts_of(links, c) if part.way[-1] == target])


def part_cells(links, c):
    """For each cell of an object the number of its part, and "head" or the index of an own field."""
    numbers = {part.way: number for number, part in enumerate(parts_of(links, c))}
    return tuple([(numbers[way], what) for way, what in laid_cells(links, c)])


def part_along(links, way):
    """The part to which a way leads in an object of its first class."""
    row = check_way(links, way)
    return part_at(links, row[0], cut_way(links, row))


def part_at(links, c, cut):
    """The part with this cut way in an object of class c."""
    return [part for part in parts_of(links, c) if part.way == cut][0]


def shift_along(links, way, at):
    """How far the head at the end of a way lies behind the head at item `at` of it."""
    row = check_way(links, way)
    if not is_whole(at, 0, len(row) - 1):
        raise BadStart(at)
    return part_along(links, row).place - part_along(links, row[:at + 1]).place


def holders_of(links, c, number):
    """The numbers of the parts that have a link straight to the part with this number, ascending."""
    parts = parts_of(links, c)
    if not is_whole(number, 0, len(parts) - 1):
        raise NoPart(number)
    target = parts[number].way
    return tuple([k for k, part in enumerate(parts) if target in linked_ways(links, part.way)])


def linked_ways(links, way):
    """The cut ways of the parts to which the links of a part lead straight."""
    c = way[-1]
    return [(base,) if links.is_shared(c, base) else way + (base,) for base in links.world.bases[c]]

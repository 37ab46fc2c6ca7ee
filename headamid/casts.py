"""Casts: from an object to its part of a class, when they are clear, and when they stay so."""

from headamid.elders import check_class, common_heirs, on_line
from headamid.errors import BadWay, TooMany
from headamid.links import check_way, cut_way, ways_between
from headamid.partobjects import parts_of, shift_along
from headamid.worlds import MOST_CLASSES


class Unclear:
    """Two ways that lead to unlike parts of one class."""

    def __init__(self, first, second):
        self.first = first
        self.second = second


class NoWay:
    """There is no part of the class."""

    def __init__(self):
        pass


class Moving:
    """Links with an heir more in whose objects a way leads another distance, and the two distances."""

    def __init__(self, links, first, second):
        self.links = links
        self.first = first
        self.second = second


class Several:
    """Links with an heir more in whose objects two ways lead to unlike parts of one class."""

    def __init__(self, links, first, second):
        self.links = links
        self.first = first
        self.second = second


def cast_place(links, c, target):
    """The place of the only part of class target in an object of class c, or NoWay, or Unclear."""
    check_class(links.world, c)
    check_class(links.world, target)
    places = [part.place for part in parts_of(links, c) if part.way[-1] == target]
    if len(places) == 0:
        return NoWay()
    if len(places) == 1:
        return places[0]
    return unclear_ways(links, c, target)


def unclear_ways(links, c, target):
    """The first way, and the first way that leads to another part."""
    ways = list(ways_between(links, c, target))
    lead = cut_way(links, ways[0])
    others = [way for way in ways if cut_way(links, way) != lead]
    return Unclear(ways[0], others[0])


def ways_agree(links, first, second):
    """Whether two ways lead to the same part of an object of their common first class."""
    one = check_way(links, first)
    other = check_way(links, second)
    if one[0] != other[0]:
        raise BadWay(0)
    return cut_way(links, one) == cut_way(links, other)


def first_unclear(links):
    """The Unclear of the least class, and its least target, that has one, or None."""
    for c in range(len(links.world.classes)):
        ends = [part.way[-1] for part in parts_of(links, c)]
        for target in links.world.elders[c]:
            if ends.count(target) > 1:
                return unclear_ways(links, c, target)
    return None


def must_share(world):
    """The links that must be shared so that all casts are clear, ascending."""
    couples = [(c, base) for c, bases in enumerate(world.bases) for base in bases]
    return tuple(sorted([(x, t) for x, t in couples if has_rival(world, x, t)]))


def has_rival(world, x, t):
    """Whether another class with a link to t is on one line with x or has a common heir with it."""
    rivals = [y for y, bases in enumerate(world.bases) if y != x and t in bases]
    return any([on_line(world, x, y) or len(common_heirs(world, x, y)) > 0 for y in rivals])


def check_room(links):
    """Raises TooMany if the world has no room for an heir more."""
    count = len(links.world.classes) + 1
    if count > MOST_CLASSES:
        raise TooMany(count)


def steady_way(links, way):
    """None if the way leads the same distance in all heirs to come, otherwise the Moving of one heir."""
    row = check_way(links, way)
    if not any([links.is_shared(row[at - 1], row[at]) for at in range(1, len(row))]):
        return None
    check_room(links)
    heir = len(links.world.classes)
    longer = links.with_class((row[0],), 1)
    return Moving(longer, shift_along(links, row, 0), shift_along(longer, (heir,) + row, 1))


def one_part(links, target):
    """None if a target is one part in all heirs to come that share it, otherwise the Several of one heir."""
    check_class(links.world, target)
    doubled = [c for c, base in links.all_links if base == target and not links.is_shared(c, base)]
    if len(doubled) == 0:
        return None
    check_room(links)
    heir = len(links.world.classes)
    longer = links.with_class((doubled[0], target), 0, (target,))
    return Several(longer, (heir, doubled[0], target), (heir, target))

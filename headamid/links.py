"""Links of classes to their bases, shared or doubled, and the ways along them."""

from headamid.elders import check_class
from headamid.errors import BadLink, BadWay, NoLink
from headamid.wholes import is_sequence, is_whole, is_whole_couple


class Links:
    """A world whose links are shared or doubled; it never changes."""

    def __init__(self, world, shared=()):
        if not is_sequence(shared):
            raise BadLink(0)
        found = []
        for index, link in enumerate(shared):
            if not is_link_of(world, link) or tuple(link) in found:
                raise BadLink(index)
            found.append(tuple(link))
        self.world = world
        self.shared = tuple(sorted(found))

    @property
    def all_links(self):
        """All links, by class, those of one class in the order of its bases."""
        return tuple([(c, base) for c, bases in enumerate(self.world.bases) for base in bases])

    def is_shared(self, c, base):
        """Whether a link is shared."""
        if not is_link_of(self.world, (c, base)):
            raise NoLink(c, base)
        return (c, base) in self.shared

    def with_shared(self, c, base):
        """The links with this one shared, too."""
        if self.is_shared(c, base):
            return Links(self.world, self.shared)
        return Links(self.world, self.shared + ((c, base),))

    def with_class(self, bases, fields, shared_bases=()):
        """The links of the world with one class more, whose links to some of its bases are shared."""
        world = self.world.with_class(bases, fields, ())
        c = len(self.world.classes)
        if not is_sequence(shared_bases):
            raise BadLink(0)
        found = []
        for index, base in enumerate(shared_bases):
            if not is_link_of(world, (c, base)) or (c, base) in found:
                raise BadLink(index)
            found.append((c, base))
        return Links(world, self.shared + tuple(found))

    def __eq__(self, other):
        return isinstance(other, Links) and self.world == other.world and self.shared == other.shared


def is_link_of(world, thing):
    """Whether a thing is a link of the world."""
    if not is_whole_couple(thing) or not is_whole(thing[0], 0, len(world.classes) - 1):
        return False
    return thing[1] in world.bases[thing[0]]


def flat_links(links):
    """The links of the same world, all of them shared."""
    return Links(links.world, links.all_links)


def ways_between(links, c, target):
    """Yields all ways from a class to a target, depth first, bases in their order."""
    world = links.world
    way = (check_class(world, c),)
    check_class(world, target)
    yield from ways_on(world, way, target)


def ways_on(world, way, target):
    """Yields all ways to the target that begin with this way."""
    last = way[-1]
    if last == target:
        yield way
    elif target in world.elders[last]:
        for base in world.bases[last]:
            longer = way + (base,)
            yield from ways_on(world, longer, target)


def check_way(links, way):
    """Returns the way as a tuple if it is one."""
    if not is_sequence(way) or len(way) == 0 or not is_whole(way[0], 0, len(links.world.classes) - 1):
        raise BadWay(0)
    for index in range(1, len(way)):
        if not is_whole(way[index]) or way[index] not in links.world.bases[way[index - 1]]:
            raise BadWay(index)
    return tuple(way)


def cut_way(links, way):
    """The piece of a way that begins with the base of its last shared link; the whole way if none is shared."""
    row = check_way(links, way)
    begin = 0
    for at in range(1, len(row)):
        if links.is_shared(row[at - 1], row[at]):
            begin = at
    return row[begin:]

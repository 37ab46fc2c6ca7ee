"""Kinds of classes: which are joined, on which sides they lie, and which worlds keep them."""

from headamid.elders import on_line
from headamid.errors import (
    BadGiven, BadJoins, BadKinds, BadKindSides, BadRing, NoKind, NotKept,
)
from headamid.wholes import is_sequence, is_unlike_row, is_whole
from headamid.worlds import World

MOST_KINDS = 5
MOST_JOINS = 5
LEAST_RING = 3
SIDES_ASCENDING = ("down", "up")


class Kinds:
    """Some kinds, the pairs of them that are joined, and those that are bare."""

    def __init__(self, many, joined, bare=()):
        if not is_whole(many, 1, MOST_KINDS):
            raise BadKinds(0, "many")
        if not is_sequence(joined):
            raise BadKinds(0, "joined")
        index = join_fault(joined, many)
        if index is not None:
            raise BadKinds(index, "join")
        index = row_fault_at(bare, many)
        if index is not None:
            raise BadKinds(index, "bare")
        self.many = many
        self.joined = tuple(sorted([tuple(sorted(pair)) for pair in joined]))
        self.bare = tuple(sorted(bare))

    @staticmethod
    def in_ring(many):
        """Kinds none of which is bare, each joined to the next one and the last to the first."""
        if not is_whole(many, LEAST_RING, MOST_KINDS):
            raise BadKinds(0, "many")
        return Kinds(many, [(kind, (kind + 1) % many) for kind in range(many)])

    def are_joined(self, one, other):
        """Whether two kinds are joined."""
        check_kind(self, one)
        check_kind(self, other)
        return (min(one, other), max(one, other)) in self.joined

    def is_bare(self, kind):
        """Whether a kind is bare."""
        return check_kind(self, kind) in self.bare

    def __eq__(self, other):
        return (isinstance(other, Kinds) and self.many == other.many
                and self.joined == other.joined and self.bare == other.bare)


class Breach:
    """The first class of a world that does not keep the kinds, and in what."""

    def __init__(self, cls, first, second, what):
        self.cls = cls
        self.first = first
        self.second = second
        self.what = what


class Sides:
    """A row of kind sides without a clash."""

    def __init__(self, sides):
        self.sides = sides


class KindRing:
    """An odd ring of joined kinds."""

    def __init__(self, ring):
        self.ring = ring


def join_fault(joins, many):
    """The index of the first item that is no couple of unlike kinds or whose pair stands earlier, or None."""
    seen = set()
    for index, item in enumerate(joins):
        if not is_unlike_row(item, many) or len(item) != 2:
            return index
        pair = tuple(sorted(item))
        if pair in seen:
            return index
        seen.add(pair)
    return None


def row_fault_at(row, many):
    """The index of the first item that is no kind or stands earlier, 0 if there is no sequence, or None."""
    if not is_sequence(row):
        return 0
    for index, item in enumerate(row):
        if not is_whole(item, 0, many - 1) or item in row[:index]:
            return index
    return None


def check_kind(kinds, kind):
    """Returns the kind if it is one."""
    if not is_whole(kind, 0, kinds.many - 1):
        raise NoKind(kind)
    return kind


def check_given(world, kinds, given):
    """Returns the kinds that are given to the classes as a tuple."""
    if not is_sequence(given) or len(given) != len(world.classes):
        raise BadGiven(0)
    for index, kind in enumerate(given):
        if not is_whole(kind, 0, kinds.many - 1):
            raise BadGiven(index)
    return tuple(given)


def kept_fault(world, kinds, given):
    """The Breach of the first class with a fault, or None if the world keeps the kinds."""
    row = check_given(world, kinds, given)
    for c in range(len(world.classes)):
        fault = class_breach(world, kinds, row, c)
        if fault is not None:
            return fault
    return None


def class_breach(world, kinds, given, c):
    """The Breach of one class, or None."""
    if world.owns[c] > 0 and kinds.is_bare(given[c]):
        return Breach(c, c, c, "bare")
    among = world.elders[c] + (c,)
    for k, first in enumerate(among):
        for second in among[k + 1:]:
            what = pair_fault(world, kinds, given, first, second)
            if what is not None:
                return Breach(c, first, second, what)
    return None


def pair_fault(world, kinds, given, first, second):
    """The word for what bars a common heir of two classes, as far as these two count, or None."""
    if given[first] == given[second]:
        return None if on_line(world, first, second) else "line"
    return None if kinds.are_joined(given[first], given[second]) else "kind"


def check_kept(world, kinds, given):
    """Returns the given kinds as a tuple if the world keeps the kinds."""
    fault = kept_fault(world, kinds, given)
    if fault is not None:
        raise NotKept(fault.cls, fault.first, fault.second, fault.what)
    return tuple(given)


def check_kind_sides(kinds, sides):
    """Returns a row of kind sides as a tuple."""
    if not is_sequence(sides) or len(sides) != kinds.many:
        raise BadKindSides(0)
    for index, side in enumerate(sides):
        if not isinstance(side, str) or side not in SIDES_ASCENDING:
            raise BadKindSides(index)
    return tuple(sides)


def laid_joins(kinds):
    """The couples of joined kinds none of which is bare, ascending."""
    return [pair for pair in kinds.joined if pair[0] not in kinds.bare and pair[1] not in kinds.bare]


def side_clash(kinds, sides):
    """The first two joined kinds, none bare, that have one side, or None."""
    row = check_kind_sides(kinds, sides)
    for one, other in laid_joins(kinds):
        if row[one] == row[other]:
            return one, other
    return None


def kind_sides(kinds):
    """Sides with "up" for the bare kinds and the least kind of each piece, or a KindRing."""
    rows = clear_rows(kinds)
    if len(rows) == 0:
        return KindRing(first_odd_ring(kinds))
    # "up" comes behind "down", and a piece can be turned alone: so the last row has each least kind "up".
    return Sides(rows[-1])


def clear_rows(kinds):
    """All rows of kind sides without a clash that have "up" for the bare kinds, ascending."""
    joins = laid_joins(kinds)
    rows = [()]
    for kind in range(kinds.many):
        sides = ("up",) if kinds.is_bare(kind) else SIDES_ASCENDING
        elder = [one for one, other in joins if other == kind]
        rows = [row + (side,) for row in rows for side in sides if side not in [row[one] for one in elder]]
    return rows


def side_rows(kinds):
    """Yields all rows of kind sides without a clash that have "up" for the bare kinds, ascending."""
    rows = clear_rows(kinds)
    for row in rows:
        yield row


def first_odd_ring(kinds):
    """The first in ascending order of the shortest odd rings of joined kinds, None if there is none."""
    ways = [(kind,) for kind in range(kinds.many)]
    while len(ways) > 0:
        for way in ways:
            if ring_fault_of(kinds, way) is None:
                return way
        ways = [way + (kind,) for way in ways for kind in range(kinds.many) if can_follow(kinds, way, kind)]
    return None


def can_follow(kinds, way, kind):
    """Whether a kind can come behind those of a way that may become a ring."""
    return kind not in way and kinds.are_joined(way[-1], kind)


def ring_fault_of(kinds, ring):
    """None if this is an odd ring of joined kinds, none bare, otherwise the word for its fault."""
    if not is_unlike_row(ring, kinds.many) or len(ring) < LEAST_RING:
        return "kind"
    if any([kinds.is_bare(kind) for kind in ring]):
        return "kind"
    if any([not kinds.are_joined(one, other) for one, other in ring_joins(ring)]):
        return "join"
    if len(ring) % 2 == 0:
        return "even"
    return None


def ring_joins(ring):
    """The couples of neighbours of a ring, the last one leading back to the first kind."""
    return [(kind, ring[(at + 1) % len(ring)]) for at, kind in enumerate(ring)]


def threes_of(kinds):
    """The ascending triples of kinds, none bare, each two of which are joined."""
    joins = laid_joins(kinds)
    return tuple([(one, two, three) for one, two in joins for three in range(two + 1, kinds.many)
                  if (one, three) in joins and (two, three) in joins])


def join_world(kinds, joins):
    """A world with a class for each kind in the joins and an heir for each join, and their kinds."""
    row = check_joins(kinds, joins)
    heads = sorted(set([kind for pair in row for kind in pair]))
    entries = [((), 1, ()) for _ in heads]
    for one, other in row:
        entries.append(((heads.index(one), heads.index(other)), 0, ()))
    return World(entries), tuple(heads + [one for one, _ in row])


def check_joins(kinds, joins):
    """Returns the joins in their order, the lesser kind of each first."""
    if not is_sequence(joins) or len(joins) == 0 or len(joins) > MOST_JOINS:
        raise BadJoins(0)
    row = []
    for index, item in enumerate(joins):
        if not is_unlike_row(item, kinds.many) or tuple(sorted(item)) not in laid_joins(kinds):
            raise BadJoins(index)
        if tuple(sorted(item)) in row:
            raise BadJoins(index)
        row.append(tuple(sorted(item)))
    return row


def ring_world(kinds, ring):
    """The world of the joins of an odd ring of kinds, and the kinds of its classes."""
    what = ring_fault_of(kinds, ring)
    if what is not None:
        raise BadRing(what)
    return join_world(kinds, ring_joins(ring))

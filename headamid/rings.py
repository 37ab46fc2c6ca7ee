"""Sides and close layings, odd rings of ties, and the close layings counted and listed."""

from math import factorial

from headamid.elders import own_fields
from headamid.errors import BadSides, BrokenTie
from headamid.layings import Laying
from headamid.ties import Tie, all_ties, bound_classes, pieces_of
from headamid.wholes import is_sequence, is_whole, is_whole_couple

SIDES = ("up", "down")


class OddRing:
    """A ring of ties with an odd number of unlike ones."""

    def __init__(self, ties):
        self.ties = ties


def check_sides(world, sides):
    """Returns the sides as a tuple if there is one for each field."""
    if not is_sequence(sides) or len(sides) != len(world.all_fields):
        raise BadSides(0)
    for index, side in enumerate(sides):
        if not isinstance(side, str) or side not in SIDES:
            raise BadSides(index)
    return tuple(sides)


def broken_tie(world, sides):
    """The first tie that the sides break, or None."""
    side_of = by_field(world, check_sides(world, sides))
    for tie in all_ties(world):
        if (side_of[tie.first] == side_of[tie.second]) != (tie.sense == "alike"):
            return tie
    return None


def by_field(world, items):
    """The items of the fields: the first field has the first item."""
    return {field: item for field, item in zip(world.all_fields, items)}


def laying_by(world, sides):
    """The close laying with these sides in which own fields lie outwards in their order."""
    tie = broken_tie(world, sides)
    if tie is not None:
        raise BrokenTie(tie)
    side_of = by_field(world, sides)
    places = {}
    for c in range(len(world.classes)):
        low, high = reach_of(world, places, c)
        for field in own_fields(world, c):
            if side_of[field] == "up":
                high = high + 1
                places[field] = high
            else:
                low = low - 1
                places[field] = low
    return Laying(world, [places[field] for field in world.all_fields])


def reach_of(world, places, c):
    """The least and the greatest cell that the head and the elders' fields of c take."""
    cells = [0] + [places[field] for elder in world.elders[c] for field in own_fields(world, elder)]
    return min(cells), max(cells)


def laid_world(world):
    """A close laying of the world, or a shortest odd ring if there is none."""
    sides = settled_sides(world)
    if sides is None:
        return OddRing(shortest_odd_ring(world))
    return laying_by(world, sides)


def settled_sides(world):
    """The sides that keep all ties, "up" for the first field of each piece; None if there are none."""
    joins = joins_by_field(world)
    side_of = {}
    for lead in world.all_fields:
        if lead not in side_of:
            settle_piece(joins, side_of, lead)
    sides = tuple([side_of[field] for field in world.all_fields])
    if broken_tie(world, sides) is not None:
        return None
    return sides


def joins_by_field(world):
    """For each field the ties in which it stands, each with the field at its other end."""
    joins = {field: [] for field in world.all_fields}
    for tie in all_ties(world):
        joins[tie.first].append((tie, tie.second))
        joins[tie.second].append((tie, tie.first))
    return joins


def settle_piece(joins, side_of, lead):
    """Gives the fields of one piece the sides that the ties on the way from its first field ask for."""
    side_of[lead] = "up"
    waiting = [lead]
    while len(waiting) > 0:
        field = waiting.pop()
        for tie, other in joins[field]:
            if other not in side_of:
                side_of[other] = side_behind(tie, side_of[field])
                waiting.append(other)


def side_behind(tie, side):
    """The side that a tie asks for at one end if the other end has a side."""
    if tie.sense == "alike":
        return side
    return "down" if side == "up" else "up"


def shortest_odd_ring(world):
    """The ties of an odd ring with as few ties as an odd ring can have."""
    joins = joins_by_field(world)
    walks = [odd_walk(joins, field) for field in world.all_fields]
    return min([walk for walk in walks if walk is not None], key=len)


def odd_walk(joins, start):
    """The ties of a shortest odd ring through a field, or None."""
    # A step is a field and whether the ties that led there have an odd number of unlike ones.
    came = {(start, False): None}
    steps = [(start, False)]
    at = 0
    while at < len(steps) and (start, True) not in came:
        field, odd = steps[at]
        at = at + 1
        for tie, other in joins[field]:
            step = (other, odd != (tie.sense == "unlike"))
            if step not in came:
                came[step] = ((field, odd), tie)
                steps.append(step)
    if (start, True) not in came:
        return None
    return ties_back(came, (start, True))


def ties_back(came, step):
    """The ties that led to a step, in walking order."""
    ties = []
    while came[step] is not None:
        step, tie = came[step]
        ties.append(tie)
    return tuple(ties[::-1])


def ring_fault(world, ring):
    """None if this is an odd ring of the world, otherwise the word for its fault."""
    if not is_sequence(ring.ties) or len(ring.ties) == 0:
        return "tie"
    known = {tie_key(tie): tie for tie in all_ties(world)}
    ties = []
    for item in ring.ties:
        if not is_tie(item) or tie_key(item) not in known:
            return "tie"
        ties.append(known[tie_key(item)])
    if not is_closed(ties):
        return "closed"
    if len([tie for tie in ties if tie.sense == "unlike"]) % 2 == 0:
        return "even"
    return None


def is_tie(thing):
    """Whether a thing is a Tie whose attributes are of the kinds that ties have."""
    if not isinstance(thing, Tie) or not is_whole_couple(thing.first) or not is_whole_couple(thing.second):
        return False
    return isinstance(thing.sense, str) and is_whole(thing.a) and is_whole(thing.b) and is_whole(thing.heir)


def tie_key(tie):
    """All six attributes of a tie."""
    return tuple(tie.first), tuple(tie.second), tie.sense, tie.a, tie.b, tie.heir


def is_closed(ties):
    """Whether these ties, in their order, lead from a field back to it."""
    # A tie alone cannot lead back: its two fields are unlike.
    for start in (ties[0].first, ties[0].second):
        field = start
        for tie in ties:
            field = end_behind(tie, field)
        if field == start:
            return True
    return False


def end_behind(tie, field):
    """The field that a tie joins to this one, or None if it joins nothing to it."""
    if field == tie.first:
        return tie.second
    if field == tie.second:
        return tie.first
    return None


def count_layings(world):
    """The number of close layings of the world."""
    if settled_sides(world) is None:
        return 0
    number = 1
    for piece in pieces_of(world):
        if len(piece) > 1:
            number = number * 2
    bound = bound_classes(world)
    for c, many in enumerate(world.owns):
        number = number * factorial(many if c in bound else many + 1)
    return number


def all_layings(world):
    """Yields all close layings, ascending by their places."""
    sides = settled_sides(world)
    if sides is not None:
        bonds = class_bonds(world, sides)
        for places in laid_rows(world, bonds, 0, ()):
            yield Laying(world, places)


def class_bonds(world, sides):
    """For each bound class the index of the first field of its piece, and whether they have one side."""
    side_of = by_field(world, sides)
    bonds = [None for _ in world.classes]
    bound = bound_classes(world)
    for piece in pieces_of(world):
        for field in piece:
            if field[0] in bound:
                bonds[field[0]] = (world.all_fields.index(piece[0]), side_of[field] == side_of[piece[0]])
    return bonds


def laid_rows(world, bonds, c, places):
    """Yields the places of all fields in each close laying that begins with these, ascending."""
    if c == len(world.classes):
        yield places
    else:
        behind = c + 1
        for row in own_rows(world, bonds[c], c, places):
            longer = places + row
            yield from laid_rows(world, bonds, behind, longer)


def own_rows(world, bond, c, places):
    """All places that the own fields of c can have behind those of the classes before it, ascending."""
    many = world.owns[c]
    low, high = reach_of(world, by_field(world, places), c)
    rows = []
    for ups in numbers_above(bond, many, places):
        cells = list(range(low - many + ups, low)) + list(range(high + 1, high + ups + 1))
        rows.extend(orders_of(cells))
    return sorted(rows)


def numbers_above(bond, many, places):
    """How many of the own fields of a class can lie above the head."""
    if bond is None:
        return list(range(many + 1))
    lead, alike = bond
    if lead >= len(places):
        return [0, many]
    return [many] if (places[lead] > 0) == alike else [0]


def orders_of(cells):
    """The cells in all orders."""
    orders = [()]
    for cell in cells:
        orders = [order[:k] + (cell,) + order[k:] for order in orders for k in range(len(order) + 1)]
    return orders

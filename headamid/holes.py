"""Holes, weighed, and the layings with the fewest of them in which no class has two fields in one cell."""

from headamid.elders import fields_of
from headamid.errors import BadFields, BadWeights, NotApart, TooMany
from headamid.layings import Laying, apart_fault, extent_of
from headamid.wholes import is_sequence, is_whole, is_whole_couple

MOST_WEIGHT = 99
MOST_FOR_HOLES = 7


class Least:
    """The least number of weighed holes, and a laying that has it."""

    def __init__(self, number, laying):
        self.number = number
        self.laying = laying


def check_weights(world, weights):
    """Returns the weights as a tuple if there is one for each class."""
    if not is_sequence(weights):
        raise BadWeights(0)
    many = len(world.classes)
    for index, weight in enumerate(weights[:many]):
        if not is_whole(weight, 0, MOST_WEIGHT):
            raise BadWeights(index)
    if len(weights) != many:
        raise BadWeights(min(len(weights), many))
    return tuple(weights)


def check_apart(world, laying):
    """Raises NotApart if a class has two fields in one cell."""
    fault = apart_fault(world, laying)
    if fault is not None:
        raise NotApart(fault.cls, fault.cell)


def class_reaches(world, laying):
    """For each class the numbers of cells of its stretch below the head and above it."""
    extents = [extent_of(world, laying, c) for c in range(len(world.classes))]
    return tuple([(-least, greatest) for least, greatest in extents])


def class_holes(world, laying):
    """For each class the number of its holes."""
    check_apart(world, laying)
    reaches = class_reaches(world, laying)
    return tuple([below + above - len(fields_of(world, c)) for c, (below, above) in enumerate(reaches)])


def weighed_holes(world, laying, weights):
    """The sum of the holes of all classes, each times the weight of its class."""
    holes = class_holes(world, laying)
    return sum([many * weight for many, weight in zip(holes, check_weights(world, weights))])


def pressed_laying(world, laying):
    """The gapless laying with the same sides, the same order on each side, and the same fields in one place."""
    check_apart(world, laying)
    ups = sorted(set([place for place in laying.places if place > 0]))
    downs = sorted(set([-place for place in laying.places if place < 0]))
    return Laying(world, [ups.index(place) + 1 if place > 0 else -1 - downs.index(-place) for place in laying.places])


def check_above(world, above):
    """Returns the fields that shall lie above the head, as tuples."""
    if not is_sequence(above):
        raise BadFields(0)
    found = []
    for index, field in enumerate(above):
        if not is_whole_couple(field) or tuple(field) not in world.all_fields or tuple(field) in found:
            raise BadFields(index)
        found.append(tuple(field))
    return found


def check_hole_bound(world):
    """Raises TooMany if the world has too many fields for going through their sets."""
    many = len(world.all_fields)
    if many > MOST_FOR_HOLES:
        raise TooMany(many)


def least_split(world, weights, above):
    """The Least of the layings that have just these fields above the head."""
    row = check_weights(world, weights)
    ups = check_above(world, above)
    check_hole_bound(world)
    return least_for(world, row, side_costs(world, row), set_of(world, ups))


def least_holes(world, weights):
    """The Least of all layings of the world."""
    row = check_weights(world, weights)
    check_hole_bound(world)
    costs = side_costs(world, row)
    full = len(costs) - 1
    # The head and the fields take as many cells in all layings; so the fewest cells make the fewest holes.
    _, ups = min([(costs[part][0] + costs[full - part][0], part) for part in range(len(costs))])
    return least_for(world, row, costs, ups)


def set_of(world, fields):
    """A set of fields as a number: bit k stands for field k of the world."""
    return sum([1 << k for k, field in enumerate(world.all_fields) if field in fields])


def class_sets(world):
    """For each class the set of its fields."""
    return [set_of(world, fields_of(world, c)) for c in range(len(world.classes))]


def side_costs(world, weights):
    """For each set of fields on one side the least weighed number of cells, and the fields nearest to the head."""
    owned = class_sets(world)
    layers = [part for part in range(1, 1 << len(world.all_fields)) if is_layer(owned, part)]
    costs = [(0, 0)]
    for fields in range(1, 1 << len(world.all_fields)):
        nearest = sum([weight for mine, weight in zip(owned, weights) if mine & fields != 0])
        rest, layer = min([(costs[fields - part][0], part) for part in layers if part & fields == part])
        costs.append((nearest + rest, layer))
    return costs


def is_layer(owned, part):
    """Whether these fields can have one place: no class has two of them."""
    return all([is_one_at_most(mine & part) for mine in owned])


def is_one_at_most(fields):
    """Whether a set has at most one field."""
    return fields & (fields - 1) == 0


def least_for(world, weights, costs, ups):
    """The Least of the layings in which just these fields lie above the head."""
    downs = len(costs) - 1 - ups
    fields = sum([len(fields_of(world, c)) * weight for c, weight in enumerate(weights)])
    number = costs[ups][0] + costs[downs][0] - fields
    above = places_on(costs, ups)
    below = places_on(costs, downs)
    places = [above[k] if k in above else -below[k] for k in range(len(world.all_fields))]
    return Least(number, Laying(world, places))


def places_on(costs, fields):
    """For each field of a set, by its number, how far from the head it lies."""
    places = {}
    rest = fields
    far = 0
    while rest > 0:
        layer = costs[rest][1]
        far = far + 1
        for k in range(layer.bit_length()):
            if (layer >> k) & 1 == 1:
                places[k] = far
        rest = rest - layer
    return places

"""Heaps: rows of cells with objects one behind another."""

from headamid.elders import fields_of
from headamid.errors import BadAddress, BadValue, NoField
from headamid.holes import check_apart
from headamid.layings import cells_of
from headamid.wholes import is_sequence, is_whole, is_whole_couple

HEAD = "head"
DROPPED = "dropped"
LINK = "at"


class Heap:
    """A row of cells with objects of a world under a laying."""

    def __init__(self, world, laying):
        check_apart(world, laying)
        self.world = world
        self.laying = laying
        self._cells = []
        # The class of each object that is not dropped, by its address, ascending.
        self._classes = {}

    @property
    def cells(self):
        """What stands in the cells of the row."""
        return tuple(self._cells)

    @property
    def addresses(self):
        """The addresses of the objects that are not dropped, ascending."""
        return tuple(self._classes)

    @property
    def counts(self):
        """For each class how many objects made as this very class are not dropped."""
        made = [self._classes[address] for address in self._classes]
        return tuple([len([k for k in made if k == c]) for c in range(len(self.world.classes))])

    def make_object(self, c):
        """Puts a new object of a class behind the last cell and returns its address."""
        row = new_cells(self.world, self.laying, c)
        address = len(self._cells) + row.index((HEAD, c))
        self._cells.extend(row)
        self._classes[address] = c
        return address

    def class_at(self, address):
        """The class of an object."""
        if not is_whole(address) or not has_object(self, address):
            raise BadAddress(address)
        return self._classes[address]

    def value_at(self, address, field):
        """The value of a field of an object."""
        return self._cells[cell_of(self, address, field)]

    def put_value(self, address, field, value):
        """Sets the value of a field of an object."""
        cell = cell_of(self, address, field)
        self._cells[cell] = checked_value(self, value)

    def drop_object(self, address):
        """Drops an object; its cells stay."""
        c = self.class_at(address)
        self._cells[address] = (DROPPED, c)
        del self._classes[address]

    def reached_from(self, addresses):
        """These addresses and all that are reached from them, ascending."""
        row = checked_addresses(self, addresses)
        reached = {address: True for address in row}
        at = 0
        while at < len(row):
            for target in links_from(self, row[at]):
                if target not in reached:
                    reached[target] = True
                    row.append(target)
            at = at + 1
        return tuple(sorted(reached))

    def sweep_rest(self, addresses):
        """Drops each object that is not reached from these, and returns the addresses of those dropped."""
        reached = self.reached_from(addresses)
        rest = tuple([address for address in self._classes if address not in reached])
        for address in rest:
            self.drop_object(address)
        return rest

    def relaid_by(self, laying):
        """A new heap of the objects that are not dropped under another laying, and the couples of addresses."""
        heap = Heap(self.world, laying)
        elder = self.addresses
        news = {}
        for address in elder:
            news[address] = heap.make_object(self.class_at(address))
        for address in elder:
            for field in fields_of(self.world, self.class_at(address)):
                value = moved_value(self.value_at(address, field), news)
                heap.put_value(news[address], field, value)
        return heap, tuple([(address, news[address]) for address in elder])

    def compact_cells(self):
        """Takes the cells of dropped objects out of the row and returns the couples of addresses."""
        heap, couples = self.relaid_by(self.laying)
        self._cells = list(heap.cells)
        self._classes = {address: heap.class_at(address) for address in heap.addresses}
        return couples


def has_object(heap, address):
    """Whether an object that is not dropped has its head in a cell."""
    return address in heap._classes


def new_cells(world, laying, c):
    """The cells of a new object of a class."""
    row = []
    for fields in cells_of(world, laying, c):
        if fields == HEAD:
            row.append((HEAD, c))
        else:
            row.append(None if len(fields) == 0 else 0)
    return row


def cell_of(heap, address, field):
    """The cell of a field of an object."""
    c = heap.class_at(address)
    if not is_whole_couple(field) or tuple(field) not in fields_of(heap.world, c):
        raise NoField(field)
    return address + heap.laying.place_of(field)


def checked_value(heap, value):
    """Returns a value as it is kept."""
    if value is None or is_whole(value):
        return value
    if not is_link(value) or not has_object(heap, value[1]):
        raise BadValue()
    return tuple(value)


def is_link(thing):
    """Whether a thing is a value of the kind that names an address."""
    if not is_sequence(thing) or len(thing) != 2 or not isinstance(thing[0], str):
        return False
    return thing[0] == LINK and is_whole(thing[1])


def checked_addresses(heap, addresses):
    """A new list of addresses of objects that are not dropped."""
    if not is_sequence(addresses):
        raise BadAddress(addresses)
    for address in addresses:
        heap.class_at(address)
    return list(addresses)


def links_from(heap, address):
    """The addresses of objects that are not dropped that the fields of an object hold."""
    values = [heap.value_at(address, field) for field in fields_of(heap.world, heap.class_at(address))]
    return [value[1] for value in values if is_link(value) and has_object(heap, value[1])]


def moved_value(value, news):
    """The value with the new address in the place of an address; None if that object is gone."""
    if not is_link(value):
        return value
    if value[1] in news:
        return LINK, news[value[1]]
    return None

"""Worlds: rows of classes with their bases, own fields and own methods."""

from headamid.errors import BadOrder, BadWorld, TooMany
from headamid.wholes import is_order, is_sequence, is_unlike_row, is_whole

MOST_CLASSES = 12
MOST_FIELDS = 3
MOST_METHODS = 3
METHOD_NAMES = 6


class World:
    """A row of 1 to 12 classes, which never changes."""

    def __init__(self, classes):
        if not is_sequence(classes) or len(classes) == 0 or len(classes) > MOST_CLASSES:
            raise BadWorld(0, "many")
        entries = []
        for c, entry in enumerate(classes):
            what = entry_fault(entry, c)
            if what is not None:
                raise BadWorld(c, what)
            bases, fields, methods = entry
            entries.append((tuple(bases), fields, tuple(sorted(methods))))
        self.classes = tuple(entries)
        self.bases = tuple([entry[0] for entry in entries])
        self.owns = tuple([entry[1] for entry in entries])
        self.methods = tuple([entry[2] for entry in entries])
        self.elders = elder_rows(self.bases)
        self.heirs = heir_rows(self.elders)

    @property
    def all_fields(self):
        """All fields of the world, ascending."""
        return tuple([(c, i) for c in range(len(self.owns)) for i in range(self.owns[c])])

    def with_class(self, bases, fields, methods):
        """The world with one class more, the last one."""
        return World(self.classes + ((bases, fields, methods),))

    def without_last(self):
        """The world without its last class."""
        return World(self.classes[:-1])

    def renamed(self, order):
        """The world in which class order[k] of this one is class k."""
        if not is_order(order, len(self.classes)):
            raise BadOrder()
        news = {old: new for new, old in enumerate(order)}
        entries = []
        for old in order:
            bases, fields, methods = self.classes[old]
            row = tuple([news[base] for base in bases])
            if any([base > news[old] for base in row]):
                raise BadOrder()
            entries.append((row, fields, methods))
        return World(entries)

    def beside(self, other):
        """The world of these classes and, behind them, those of the other world."""
        many = len(self.classes)
        count = many + len(other.classes)
        if count > MOST_CLASSES:
            raise TooMany(count)
        raised = []
        for bases, fields, methods in other.classes:
            raised.append((tuple([base + many for base in bases]), fields, methods))
        return World(self.classes + tuple(raised))

    def __len__(self):
        return len(self.classes)

    def __iter__(self):
        return iter(self.classes)

    def __eq__(self, other):
        return isinstance(other, World) and self.classes == other.classes


def entry_fault(entry, c):
    """The word for what is wrong with the entry of class c, or None."""
    if not is_sequence(entry) or len(entry) != 3:
        return "class"
    bases, fields, methods = entry
    if not is_unlike_row(bases, c):
        return "base"
    if not is_whole(fields, 0, MOST_FIELDS):
        return "fields"
    if not is_unlike_row(methods, METHOD_NAMES) or len(methods) > MOST_METHODS:
        return "method"
    return None


def elder_rows(bases):
    """The elders of each class, ascending."""
    rows = []
    for row in bases:
        found = {}
        for base in row:
            found[base] = True
            for elder in rows[base]:
                found[elder] = True
        rows.append(tuple(sorted(found)))
    return tuple(rows)


def heir_rows(elders):
    """The heirs of each class, ascending."""
    many = len(elders)
    return tuple([tuple([heir for heir in range(many) if c in elders[heir]]) for c in range(many)])

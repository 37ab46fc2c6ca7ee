"""Rows of cells read from both ends."""

from headamid.errors import BadRow
from headamid.holes import check_apart, class_reaches
from headamid.wholes import is_sequence, is_whole

HEAD_WORDS = ("head", "dropped")


def walk_left(world, laying, row):
    """Yields (address, class, dropped) for each object of a row, from the first cell on."""
    check_apart(world, laying)
    if not is_sequence(row):
        raise BadRow(0)
    found, behind = whole_objects(row, class_reaches(world, laying))
    if behind < len(row):
        raise BadRow(behind)
    for address, c, dropped in found:
        yield address, c, dropped


def walk_right(world, laying, row):
    """Yields (address, class, dropped) for each object of a row, from the last cell on."""
    check_apart(world, laying)
    if not is_sequence(row):
        raise BadRow(0)
    last = len(row) - 1
    turned = [(above, below) for below, above in class_reaches(world, laying)]
    found, behind = whole_objects(row[::-1], turned)
    if behind <= last:
        raise BadRow(last - behind)
    for at, c, dropped in found:
        yield last - at, c, dropped


def whole_objects(row, reaches):
    """The whole objects one behind another at the beginning of a row, and the place of the first cell behind them."""
    found = []
    place = 0
    for at, cell in enumerate(row):
        if is_head(cell, len(reaches)):
            ahead, behind = reaches[cell[1]]
            stop = at + behind + 1
            if at - ahead != place or stop > len(row) or has_head(row[at + 1:stop], len(reaches)):
                return found, place
            found.append((at, cell[1], cell[0] == "dropped"))
            place = stop
    return found, place


def is_head(cell, many):
    """Whether a cell is a head of a world of many classes."""
    if not isinstance(cell, tuple) or len(cell) != 2:
        return False
    return isinstance(cell[0], str) and cell[0] in HEAD_WORDS and is_whole(cell[1], 0, many - 1)


def has_head(cells, many):
    """Whether one of the cells is a head of a world of many classes."""
    return any([is_head(cell, many) for cell in cells])

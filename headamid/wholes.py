"""Whole numbers, sequences, orders and forms among things of any kind."""


def is_sequence(thing):
    """Whether a thing is a list or a tuple."""
    return isinstance(thing, (list, tuple))


def is_whole(thing, low=None, high=None):
    """Whether a thing is an int, no bool, and within the limits that are not None."""
    if isinstance(thing, bool) or not isinstance(thing, int):
        return False
    if low is not None and thing < low:
        return False
    return high is None or thing <= high


def is_unlike_row(thing, many):
    """Whether a thing is a sequence of unlike whole numbers from 0 to many - 1."""
    if not is_sequence(thing):
        return False
    # Other things must not come as far as the set: they may be equal to a number, or have no hash.
    for item in thing:
        if not is_whole(item, 0, many - 1):
            return False
    return len(set(thing)) == len(thing)


def is_order(thing, many):
    """Whether a thing is a sequence of the numbers 0 to many - 1, each exactly once."""
    return is_unlike_row(thing, many) and len(thing) == many


def is_whole_couple(thing):
    """Whether a thing is a sequence of two whole numbers."""
    return is_sequence(thing) and len(thing) == 2 and is_whole(thing[0]) and is_whole(thing[1])


def has_form(thing, forms):
    """Whether a thing is a sequence that begins with a word and has as many items as a form, (word, number), tells."""
    if not is_sequence(thing) or len(thing) == 0 or not isinstance(thing[0], str):
        return False
    return (thing[0], len(thing)) in forms


def tuple_throughout(row):
    """The row as a tuple, with tuples in the place of the sequences in it."""
    return tuple([tuple(item) if is_sequence(item) else item for item in row])

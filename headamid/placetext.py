"""Layings as texts."""

from headamid.errors import BadText
from headamid.layings import FARTHEST, Laying

NO_FIELDS = "none"


def laying_text(laying):
    """The text of a laying: a word for each field, joined by one blank."""
    words = [place_word(field, place) for field, place in zip(laying.fields, laying.places)]
    if len(words) == 0:
        return NO_FIELDS
    return " ".join(words)


def place_word(field, place):
    """The word of a field and its place."""
    return f"{field[0]}.{field[1]}:{place}"


def read_laying(world, text):
    """The laying of this world whose text laying_text could have written."""
    if not isinstance(text, str):
        raise BadText(0)
    words = text.split(" ")
    fields = world.all_fields
    if len(fields) == 0:
        check_no_fields(words)
        return Laying(world, ())
    places = []
    for index, field in enumerate(fields):
        if index == len(words):
            raise BadText(index)
        places.append(read_place(words, index, field))
    if len(words) > len(fields):
        raise BadText(len(fields))
    return Laying(world, places)


def check_no_fields(words):
    """Raises BadText if these are not the words of a laying without fields."""
    if words[0] != NO_FIELDS:
        raise BadText(0)
    if len(words) > 1:
        raise BadText(1)


def read_place(words, index, field):
    """The place that the word with this index gives a field."""
    for place in range(-FARTHEST, FARTHEST + 1):
        if place != 0 and words[index] == place_word(field, place):
            return place
    raise BadText(index)

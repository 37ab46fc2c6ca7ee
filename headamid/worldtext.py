"""Worlds as texts."""

from headamid.errors import BadText
from headamid.worlds import MOST_CLASSES, MOST_FIELDS, MOST_METHODS, METHOD_NAMES, World

SIGNS = "0123456789a"


def world_text(world):
    """The text of a world: words joined by one blank."""
    words = []
    for bases, fields, methods in world.classes:
        if len(words) > 0:
            words.append(";")
        words.append(SIGNS[fields])
        if len(bases) > 0:
            words.extend(["of", sign_word(bases)])
        if len(methods) > 0:
            words.extend(["with", sign_word(methods)])
    return " ".join(words)


def sign_word(numbers):
    """The word of the signs of some numbers, in their order."""
    return "".join([SIGNS[number] for number in numbers])


def read_world(text):
    """The world of a text that world_text could have written."""
    if not isinstance(text, str):
        raise BadText(0)
    words = text.split(" ")
    entries = []
    at = 0
    while True:
        entry, at = read_entry(words, at, len(entries))
        entries.append(entry)
        if at == len(words):
            return World(entries)
        if words[at] != ";" or len(entries) == MOST_CLASSES:
            raise BadText(at)
        at = at + 1


def read_entry(words, at, c):
    """The entry of class c, whose words begin at a place, and the place behind them."""
    count = read_signs(words, at, MOST_FIELDS + 1)
    if len(count) > 1:
        raise BadText(at)
    at = at + 1
    bases = ()
    if c > 0 and word_at(words, at) == "of":
        bases = read_signs(words, at + 1, c)
        at = at + 2
    methods = ()
    if word_at(words, at) == "with":
        methods = read_signs(words, at + 1, METHOD_NAMES)
        if len(methods) > MOST_METHODS or methods != sorted(methods):
            raise BadText(at + 1)
        at = at + 2
    return (bases, count[0], methods), at


def read_signs(words, at, many):
    """The unlike numbers below many whose signs are the word at a place."""
    word = word_at(words, at)
    numbers = [SIGNS.find(sign) for sign in word]
    if word == "" or len(set(word)) < len(word) or min(numbers) < 0 or max(numbers) >= many:
        raise BadText(at)
    return numbers


def word_at(words, at):
    """The word at a place; an empty one, which never can stand, behind the last."""
    if at < len(words):
        return words[at]
    return ""

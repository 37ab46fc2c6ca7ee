"""[1.5]: worlds as texts."""

import re
import unittest

from headamid.errors import BadText
from headamid.worlds import World
from headamid.worldtext import read_world, world_text
from tests.samples import DIAMOND, NAMED, STRANGE, TWELVE, random_worlds

LAST = World([((), 0, ())] * 10 + [((), 1, (0, 1)), ((10, 0, 9), 3, (3, 4, 5))])
WORLDS = NAMED + (LAST,) + tuple(random_worlds(5, 80, 12, 3, True))


def class_form(c):
    """The form of the words of class c."""
    methods = "0?1?2?3?4?5?"
    form = "[0-3]( with (?=[0-5]{1,3}( |$))" + methods + ")?"
    if c > 0:
        signs = "0123456789a"[:c]
        form = "[0-3]( of (?!\\w*(?P<s%d>\\w)\\w*(?P=s%d))[%s]+)?" % (c, c, signs) + form[5:]
    return form


FORMS = ["^" + " ; ".join(class_form(c) for c in range(many)) + "$" for many in range(1, 13)]


def is_whole_text(words):
    """Whether these are the words of the text of a world."""
    many = words.count(";") + 1
    return many <= 12 and re.match(FORMS[many - 1], " ".join(words)) is not None and "\n" not in " ".join(words)


def due_index(text):
    """The index that read_world must tell for a text, None for the text of a world."""
    words = text.split(" ")
    if is_whole_text(words):
        return None
    for k in range(len(words)):
        if not is_whole_text(words[:k + 1]) and not is_whole_text(words[:k + 1] + ["0"]):
            return k
    return len(words)


class WorldTextTest(unittest.TestCase):
    def check(self, text):
        due = due_index(text)
        if due is None:
            self.assertEqual(world_text(read_world(text)), text)
        else:
            with self.assertRaises(BadText) as caught:
                read_world(text)
            self.assertEqual(caught.exception.index, due, text)

    def test_written(self):
        self.assertEqual(world_text(World([((), 0, ())])), "0")
        self.assertEqual(world_text(World([((), 3, (5, 1))])), "3 with 15")
        self.assertEqual(world_text(DIAMOND), "1 ; 1 of 0 ; 2 of 0 ; 1 of 12")
        self.assertEqual(world_text(LAST), "0 ; " * 10 + "1 with 01 ; 3 of a09 with 345")

    def test_written_and_read(self):
        for world in WORLDS:
            self.assertEqual(read_world(world_text(world)), world)
            self.assertIsNone(due_index(world_text(world)))

    def test_base_ten(self):
        text = "0 ; " * 11 + "0 of a"
        self.assertEqual(read_world(text).bases[11], (10,))
        self.check("0 ; " * 10 + "0 of a")
        self.check("0 ; " * 11 + "0 of b")
        self.check("0 ; " * 11 + "0 of A")

    def test_spoiled_texts(self):
        words_to_try = ["", ";", "of", "with", "0", "1", "3", "4", "01", "10", "00", "a", "012", "0123", "5", "6", "54",
                        "x", "-1", "\n", "0\n", "+1", ";;", "of0", "\t", "\u0661", "0;"]
        for world in (World([((), 0, ())]), DIAMOND, NAMED[5], LAST, WORLDS[14], WORLDS[30]):
            words = world_text(world).split(" ")
            for at in range(len(words) + 1):
                for word in words_to_try:
                    self.check(" ".join(words[:at] + [word] + words[at:]))
                    self.check(" ".join(words[:at] + [word] + words[at + 1:]))
                self.check(" ".join(words[:at] + words[at + 1:]))
                self.check(" ".join(words[:at]))
                self.check(" ".join(words[:at] + words[at:at + 1] * 2 + words[at + 1:]))
                for other in range(at + 1, len(words)):
                    row = list(words)
                    row[at], row[other] = row[other], row[at]
                    self.check(" ".join(row))

    def test_indexes_by_hand(self):
        for text, index in (
                ("", 0), (" ", 0), ("x", 0), ("4", 0), ("1 of 0", 1), ("1 ;", 2), ("1 ; ", 2), (" 1", 0), ("1 ", 1),
                ("1 ; 1 of", 4), ("1 ; 1 of 1", 4), ("1 ; 1 of 00", 4), ("1 ; 1 of 0 of 0", 5), ("1 with", 2),
                ("1 with 10", 2), ("1 with 11", 2), ("1 with 0123", 2), ("1 with 6", 2), ("1 with 1 with 2", 3),
                ("1 ; 1 with 1 of 0", 5), ("1  ; 1", 1), ("1 ; 1 of 0 with ", 6), ("1 ;1", 1), ("\u0661", 0),
                ("0 ; " * 11 + "0 ;", 23), ("0 ; " * 12 + "0", 23), ("0 ; " * 11 + "0 of b", 24), ("1 1", 1),
        ):
            self.assertEqual(due_index(text), index, text)
            self.check(text)

    def test_things_that_are_no_text(self):
        for thing in STRANGE + (["0"], ("1",), b"1", 1, World, DIAMOND):
            if not isinstance(thing, str):
                with self.assertRaises(BadText) as caught:
                    read_world(thing)
                self.assertEqual(caught.exception.index, 0)

    def test_twelve_classes(self):
        self.assertEqual(read_world(world_text(TWELVE)), TWELVE)
        self.check(world_text(TWELVE) + " ;")
        self.check(world_text(TWELVE) + " ; 1")


if __name__ == "__main__":
    unittest.main()

"""[1.6]: layings as texts."""

import random
import unittest

from headamid.errors import BadText
from headamid.layings import Laying
from headamid.placetext import laying_text, read_laying
from tests.samples import DIAMOND, NAMED, ONE, ROOTS, STRANGE, TWELVE, WIDE, plain_world, random_worlds, told


def drawn_laying(world, rng):
    """A laying whose places have one or two digits and lie on both sides."""
    return Laying(world, [rng.choice((1, -1)) * rng.choice((rng.randint(1, 9), rng.randint(10, 99)))
                          for _ in world.all_fields])


class LayingTextTest(unittest.TestCase):
    def check_refused(self, world, text, index):
        with self.assertRaises(BadText) as caught:
            read_laying(world, text)
        self.assertEqual(told(caught.exception), {"index": index}, text)

    def test_written(self):
        self.assertEqual(laying_text(Laying(DIAMOND, (1, -2, 10, -99, 99))), "0.0:1 1.0:-2 2.0:10 2.1:-99 3.0:99")
        self.assertEqual(laying_text(Laying(ROOTS, (-1, 9, -10))), "0.0:-1 1.0:9 1.1:-10")
        self.assertEqual(laying_text(Laying(ONE, ())), "none")
        self.assertTrue(laying_text(Laying(TWELVE, range_of(12))).endswith(" 9.0:10 10.0:11 11.0:12"))

    def test_written_and_read(self):
        rng = random.Random(14)
        for world in NAMED + tuple(random_worlds(15, 40, 12, 3)):
            for _ in range(3):
                laying = drawn_laying(world, rng)
                self.assertEqual(read_laying(world, laying_text(laying)), laying)
                self.assertEqual(read_laying(world, laying_text(laying)).places, laying.places)

    def test_every_place(self):
        world = plain_world([()], [1])
        for place in list(range(-99, 0)) + list(range(1, 100)):
            self.assertEqual(laying_text(Laying(world, (place,))), "0.0:" + str(place))
            self.assertEqual(read_laying(world, "0.0:" + str(place)).places, (place,))

    def test_no_fields(self):
        self.assertEqual(read_laying(ONE, "none"), Laying(ONE, ()))
        for text, index in (("", 0), (" ", 0), ("None", 0), ("none ", 1), (" none", 0), ("none none", 1), ("0.0:1", 0),
                            ("none 0.0:1", 1), ("none  none", 1)):
            self.check_refused(ONE, text, index)
        self.check_refused(ROOTS, "none", 0)

    def test_wrong_words_at_every_place(self):
        for world in (DIAMOND, WIDE, TWELVE):
            laying = drawn_laying(world, random.Random(16))
            words = laying_text(laying).split(" ")
            for at, (c, i) in enumerate(world.all_fields):
                head = f"{c}.{i}:"
                wrong = ["", "x", "none", head, head + "0", head + "100", head + "-100", head + "+1", head + "01",
                         head + "-01", head + "-0", head + "--1", head + "1\n", head + "1.0", head + "\u0661",
                         head + "1_0", head + " 1", "0" + head + "1", f"{c}.{i}1:1", f"{c},{i}:1", f"{c}.{i}:1;",
                         f"{c + 1}.{i}:1", f"{c}.{i + 1}:1", f"-{head}1", f"{c}.{i}1", head + "1\t", "\n" + head + "1"]
                for word in wrong:
                    self.check_refused(world, " ".join(words[:at] + [word] + words[at + 1:]), at)
                    self.check_refused(world, " ".join(words[:at] + [word] + words[at:]), at)
                self.check_refused(world, " ".join(words[:at] + words[at + 1:]), 0 if len(words) == 1 else at)
                self.check_refused(world, " ".join(words[:at + 1] + words[at:]), at + 1)
                if at > 0:
                    self.check_refused(world, " ".join(words[:at]), at)
                    swapped = words[:at - 1] + [words[at], words[at - 1]] + words[at + 1:]
                    self.check_refused(world, " ".join(swapped), at - 1)

    def test_more_words(self):
        text = laying_text(Laying(ROOTS, (1, 2, 3)))
        for more in (" ", " 2.0:1", " none", "  ", " x y"):
            self.check_refused(ROOTS, text + more, 3)
        self.check_refused(ROOTS, " " + text, 0)
        self.check_refused(ROOTS, text.replace(" ", "  ", 1), 1)
        self.check_refused(ROOTS, "", 0)

    def test_things_that_are_no_text(self):
        for thing in STRANGE + (["0.0:1"], b"none", Laying(ONE, ())):
            if not isinstance(thing, str):
                self.check_refused(ONE, thing, 0)
                self.check_refused(ROOTS, thing, 0)


def range_of(many):
    """The places 1 to many."""
    return list(range(1, many + 1))


if __name__ == "__main__":
    unittest.main()

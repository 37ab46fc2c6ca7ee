"""[1.4], [0.3], [0.5], [0.6]: elders, heirs, fields."""

import unittest

from headamid.elders import (
    check_class, check_field, common_heirs, elders_of, fields_of, heirs_of, is_kin, on_line, own_fields,
)
from headamid.errors import NoClass, NoField
from tests.samples import DIAMOND, NAMED, ONE, SAME, STRANGE, THREE, random_worlds

WORLDS = NAMED + tuple(random_worlds(4, 40, 12, 3))


def climbs(world, c):
    """The class and all classes above it, found by walking the bases."""
    found = {c}
    for base in world.bases[c]:
        found |= climbs(world, base)
    return found


class EldersTest(unittest.TestCase):
    def check_no_class(self, thing, call):
        with self.assertRaises(NoClass) as caught:
            call()
        self.assertIs(caught.exception.cls, thing)

    def test_for_each_class(self):
        for world in WORLDS:
            above = [climbs(world, c) for c in range(len(world))]
            for c in range(len(world)):
                self.assertEqual(check_class(world, c), c)
                self.assertEqual(elders_of(world, c), tuple(sorted(above[c] - {c})))
                self.assertEqual(heirs_of(world, c), tuple(h for h in range(c + 1, len(world)) if c in above[h]))
                self.assertEqual(own_fields(world, c), tuple((c, i) for i in range(world.owns[c])))
                fields = tuple(field for field in world.all_fields if field[0] in above[c])
                self.assertEqual(fields_of(world, c), fields)

    def test_for_each_couple(self):
        for world in WORLDS:
            above = [climbs(world, c) for c in range(len(world))]
            for a in range(len(world)):
                for b in range(len(world)):
                    heirs = [h for h in range(len(world)) if h not in (a, b) and a in above[h] and b in above[h]]
                    self.assertEqual(common_heirs(world, a, b), tuple(heirs))
                    self.assertIs(is_kin(world, a, b), b in above[a])
                    self.assertIs(on_line(world, a, b), b in above[a] or a in above[b])

    def test_by_hand(self):
        self.assertEqual(common_heirs(DIAMOND, 1, 2), (3,))
        self.assertEqual(common_heirs(DIAMOND, 0, 0), (1, 2, 3))
        self.assertEqual(common_heirs(DIAMOND, 0, 1), (3,))
        self.assertEqual(common_heirs(DIAMOND, 3, 3), ())
        self.assertEqual(common_heirs(THREE, 1, 3), (6,))
        self.assertIs(on_line(DIAMOND, 2, 2), True)
        self.assertIs(on_line(DIAMOND, 1, 2), False)
        self.assertIs(is_kin(DIAMOND, 3, 0), True)
        self.assertIs(is_kin(DIAMOND, 0, 3), False)
        self.assertEqual(fields_of(DIAMOND, 3), ((0, 0), (1, 0), (2, 0), (2, 1), (3, 0)))
        self.assertEqual(fields_of(ONE, 0), ())

    def test_things_that_are_no_class(self):
        for world in (ONE, DIAMOND):
            for thing in (None, True, False, 0.0, 1.0, -1, len(world), 99, "0", (), (0,), [0], {}, object(), SAME):
                for function in (check_class, elders_of, heirs_of, own_fields, fields_of):
                    self.check_no_class(thing, lambda: function(world, thing))
                for function in (common_heirs, is_kin, on_line):
                    self.check_no_class(thing, lambda: function(world, thing, 0))
                    self.check_no_class(thing, lambda: function(world, 0, thing))

    def test_the_earlier_argument_is_told(self):
        one, other = ["no"], ["neither"]
        for function in (common_heirs, is_kin, on_line):
            self.check_no_class(one, lambda: function(DIAMOND, one, other))
            self.check_no_class(other, lambda: function(DIAMOND, other, one))


class FieldTest(unittest.TestCase):
    def test_fields(self):
        for world in WORLDS:
            for field in world.all_fields:
                self.assertEqual(check_field(world, field), field)
                self.assertEqual(check_field(world, list(field)), field)
                self.assertIs(type(check_field(world, list(field))), tuple)

    def test_things_that_are_no_field(self):
        things = STRANGE + (
            (0, 1), (1, 1), (2, 2), (4, 0), (-1, 0), (0, -1), (True, 0), (False, 0), (0, False), (1.0, 0), (0, 0.0),
            [True, 0], [2, True], (2, 1.0), (0, 0, 0), [[0], 0], ("0", 0), "00", b"\0\0", (0, None), {0: 0, 1: 0},
            SAME, (SAME, 0), [0, SAME],
        )
        for thing in things:
            with self.assertRaises(NoField) as caught:
                check_field(DIAMOND, thing)
            self.assertIn(caught.exception.field, (thing, tuple(thing) if isinstance(thing, list) else thing))
        for thing in ((0, 0), [0, 0], ()):
            with self.assertRaises(NoField):
                check_field(ONE, thing)


if __name__ == "__main__":
    unittest.main()

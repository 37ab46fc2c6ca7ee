"""[8.5], [8.10], [8.11]: setups, which one extends which, and what is wrong with one."""

import itertools
import random
import unittest

from headamid.errors import BadSetup
from headamid.layings import Laying
from headamid.setups import Setup, SetupFault, extends_setup, setup_fault
from headamid.worlds import World
from tests.samples import (
    NO_SEQUENCES, ONE, SAME, caught, drawn_setup, entries_in, later_setup, name_worlds, plain_world, random_worlds,
    told, upward,
)

# The entries are (0, 0), (1, 0), (1, 4) and (3, 5); class 3 has all of them.
FOUR = World([((), 2, (0,)), ((), 1, (4, 0)), ((0,), 0, (0,)), ((2, 1), 0, (5,))])
PLACES, TABLE, HUES = (1, 2, -1), (1, -1, -2, 2), (0, 1, 0, 1)
NO_NUMBERS = (True, False, 1.0, None, "1", "", b"1", (), (1,), [1], {}, SAME)


def four(places=PLACES, table=TABLE, hues=HUES):
    return Setup(FOUR, Laying(FOUR, places), table, hues)


def due_fault(setup):
    """The first fault that [8.11] tells, as a triple."""
    world = setup.world
    place = dict(zip(world.all_fields, setup.laying.places))
    table = dict(zip(entries_in(world), setup.table))
    found = []
    for c in range(len(world)):
        among = upward(world, c)
        found += [(0, c, place[one]) for one, other in itertools.combinations(place, 2)
                  if {one[0], other[0]} <= set(among) and place[one] == place[other]]
        found += [(1, c, table[one]) for one, other in itertools.combinations(entries_in(world, c), 2)
                  if table[one] == table[other] and one[1] != other[1]]
        found += [(2, c, setup.hues[one]) for one, other in itertools.combinations(among, 2)
                  if setup.hues[one] == setup.hues[other] and one not in world.elders[other]]
    if not found:
        return None
    what, c, at = min(found)
    return ("field", "table", "hue")[what], c, at


class SetupTest(unittest.TestCase):
    def what(self, *things):
        found = caught(BadSetup, Setup, *things)
        self.assertEqual(list(found), ["what"])
        return found["what"]

    def test_what_a_setup_keeps(self):
        laying, table, hues = Laying(FOUR, PLACES), list(TABLE), list(HUES)
        setup = Setup(FOUR, laying, table, hues)
        self.assertEqual(list(told(setup)), ["world", "laying", "table", "hues"])
        self.assertIs(setup.world, FOUR)
        self.assertIs(setup.laying, laying)
        self.assertEqual((setup.table, setup.hues), (TABLE, HUES))
        table[0], hues[0] = 9, 9
        self.assertEqual((setup.table, setup.hues, type(setup.table), type(setup.hues)), (TABLE, HUES, tuple, tuple))
        self.assertEqual(told(Setup(ONE, Laying(ONE, ()), [], (7,)))["table"], ())

    def test_laying(self):
        like = plain_world([(), (), (), ()], [2, 1, 0, 0])
        self.assertEqual(Setup(FOUR, Laying(like, PLACES), TABLE, HUES).laying.places, PLACES)
        other = plain_world([(), ()], [1, 2])
        longer = plain_world([(), ()], [2, 2])
        for thing in (None, PLACES, list(PLACES), (), FOUR, SAME, "laying", 0, Laying, Laying(other, PLACES),
                      Laying(longer, PLACES + (1,)), Laying(ONE, ())):
            for table, hues in ((TABLE, HUES), (None, HUES), (TABLE, None), (None, None)):
                self.assertEqual(self.what(FOUR, thing, table, hues), "laying")

    def test_table(self):
        laying = Laying(FOUR, PLACES)
        for hues in (HUES, None, (8,)):
            for thing in NO_SEQUENCES + ((), TABLE[:3], TABLE + (1,), list(TABLE) * 2):
                self.assertEqual(self.what(FOUR, laying, thing, hues), "table")
            for thing in NO_NUMBERS + (0, 100, -100):
                for index in range(4):
                    table = list(TABLE)
                    table[index] = thing
                    self.assertEqual(self.what(FOUR, laying, table, hues), "table")
                    self.assertEqual(self.what(FOUR, laying, tuple(table), hues), "table")
        self.assertEqual(four(table=[99, -99, 1, 99]).table, (99, -99, 1, 99))

    def test_hues(self):
        laying = Laying(FOUR, PLACES)
        for thing in NO_SEQUENCES + ((), HUES[:3], HUES + (0,), [0] * 8):
            self.assertEqual(self.what(FOUR, laying, TABLE, thing), "hues")
        for thing in NO_NUMBERS + (8, -1, 99):
            for index in range(4):
                hues = list(HUES)
                hues[index] = thing
                self.assertEqual(self.what(FOUR, laying, TABLE, hues), "hues")
        self.assertEqual(four(hues=[7, 0, 7, 0]).hues, (7, 0, 7, 0))


class ExtendsTest(unittest.TestCase):
    def longer(self, rng, setup, classes=1):
        """A setup with some classes more, all else the same."""
        for _ in range(classes):
            setup = later_setup(rng, setup)
        return setup

    def changed(self, row):
        """The row with each item in turn changed."""
        for at in range(len(row)):
            yield row[:at] + (4 if row[at] != 4 else 5,) + row[at + 1:]

    def test_itself_and_later_ones(self):
        rng = random.Random(1601)
        for world in name_worlds(1602, 80, 6, 2) + [FOUR, ONE]:
            setup = drawn_setup(rng, world)
            same = Setup(world, setup.laying, list(setup.table), list(setup.hues))
            self.assertIs(extends_setup(setup, same), True)
            for classes in (1, 2, 4):
                later = self.longer(rng, setup, classes)
                self.assertIs(extends_setup(later, setup), True)
                self.assertIs(extends_setup(setup, later), False)

    def test_one_thing_changed(self):
        rng = random.Random(1603)
        spoiled = 0
        for world in name_worlds(1604, 60, 6, 2) + [FOUR]:
            setup = drawn_setup(rng, world)
            later = self.longer(rng, setup)
            for places in self.changed(setup.laying.places):
                other = Setup(world, Laying(world, places), setup.table, setup.hues)
                self.assertIs(extends_setup(later, other), False)
                spoiled += 1
            for table in self.changed(setup.table):
                self.assertIs(extends_setup(later, Setup(world, setup.laying, table, setup.hues)), False)
            for hues in self.changed(setup.hues):
                self.assertIs(extends_setup(later, Setup(world, setup.laying, setup.table, hues)), False)
            # What is changed of the classes to come does not count.
            for row in self.changed(later.laying.places):
                other = Setup(later.world, Laying(later.world, row), later.table, later.hues)
                many = len(setup.laying.places)
                self.assertIs(extends_setup(other, setup), row[:many] == setup.laying.places)
        self.assertGreater(spoiled, 50)

    def test_a_class_put_otherwise(self):
        one = plain_world([(), (), (0, 1)], [1, 1, 1])
        for bases in ([(), (0,), (0, 1)], [(), (), (1, 0)], [(), (), (0,)], [(), (), ()]):
            other = plain_world(bases, [1, 1, 1])
            rows = [Setup(world, Laying(world, (1, -1, 2)), (), (0, 0, 0)) for world in (one, other)]
            self.assertIs(extends_setup(*rows), False)
            self.assertIs(extends_setup(*rows[::-1]), False)
            for longer in (one.with_class((0,), 0, ()), one.with_class((), 0, (1,))):
                row = (5,) * len(entries_in(longer))
                later = Setup(longer, Laying(longer, (1, -1, 2)), row, (0, 0, 0, 0))
                self.assertIs(extends_setup(later, rows[0]), True)
                self.assertIs(extends_setup(later, rows[1]), False)
        methods = World([((), 1, (1,))])
        self.assertIs(extends_setup(Setup(methods, Laying(methods, (1,)), (1,), (0,)),
                                    Setup(World([((), 1, (2,))]), Laying(methods, (1,)), (1,), (0,))), False)


class FaultTest(unittest.TestCase):
    def test_drawn(self):
        rng = random.Random(1605)
        seen = {}
        for world in name_worlds(1606, 150, 7, 2) + random_worlds(1607, 100, 8, 2, methods=True):
            for _ in range(10):
                setup = drawn_setup(rng, world)
                found = setup_fault(setup)
                due = due_fault(setup)
                self.assertEqual(found and tuple(told(found).values()), due)
                if found is not None:
                    self.assertIs(type(found), SetupFault)
                    self.assertEqual(list(told(found)), ["what", "cls", "at"])
                seen[due and due[0]] = seen.get(due and due[0], 0) + 1
        self.assertEqual(len(seen), 4)
        self.assertGreater(min(seen.values()), 30)

    def row(self, *things, **named):
        found = setup_fault(four(*things, **named))
        return found and tuple(told(found).values())

    def test_by_hand(self):
        self.assertIsNone(self.row())
        self.assertEqual(self.row(places=(1, 1, 2)), ("field", 0, 1))
        self.assertEqual(self.row(places=(1, 2, 2)), ("field", 3, 2))
        self.assertEqual(self.row(table=(1, -1, -1, 2)), ("table", 1, -1))
        self.assertEqual(self.row(table=(5, -1, 5, -1)), ("table", 3, -1))
        self.assertEqual(self.row(hues=(3, 3, 1, 1)), ("hue", 3, 3))
        self.assertEqual(self.row(hues=(5, 5, 5, 5)), ("hue", 3, 5))
        self.assertIsNone(self.row(hues=(5, 0, 5, 5)))

    def test_two_at_once(self):
        self.assertEqual(self.row(places=(1, 2, 1), table=(-1, -1, -1, 1), hues=(1, 1, 0, 0)), ("field", 3, 1))
        self.assertEqual(self.row(table=(-1, -1, 2, -1), hues=(1, 1, 0, 0)), ("table", 3, -1))
        self.assertEqual(self.row(places=(-3, -3, 1), table=(5, 5, 5, 5)), ("field", 0, -3))
        two = World([((), 2, ()), ((), 2, ()), ((0, 1), 0, ())])
        for places, at in (((2, -1, -1, 2), -1), ((-1, 2, 2, -1), -1), ((5, 3, 3, 5), 3)):
            found = setup_fault(Setup(two, Laying(two, places), (), (0, 1, 2)))
            self.assertEqual(tuple(told(found).values()), ("field", 2, at))
        five = plain_world([(), (), (), (), (0, 1, 2, 3)], [0] * 5)
        found = setup_fault(Setup(five, Laying(five, ()), (), (7, 4, 7, 4, 1)))
        self.assertEqual(tuple(told(found).values()), ("hue", 4, 4))

    def test_none_where_nothing_is_wrong(self):
        # The entries (0, 0) and (1, 0) have one name.
        self.assertIsNone(self.row(table=(3, 3, 1, 2)))
        line = World([((), 1, (1,)), ((0,), 1, (2,)), ((1,), 1, ()), ((), 3, (3, 2, 1))])
        setup = Setup(line, Laying(line, (1, 2, 3, 1, 2, 3)), (1, 2, 2, 1, 3), (4, 4, 4, 4))
        self.assertIsNone(setup_fault(setup))

    def test_result_keeps_the_very_things(self):
        things = ["field"], [0], [1]
        self.assertEqual([a is b for a, b in zip(told(SetupFault(*things)).values(), things)], [True] * 3)


if __name__ == "__main__":
    unittest.main()

"""[1.2], [1.3], [0.3], [0.4], [0.5]: worlds."""

import itertools
import unittest

from headamid.errors import BadOrder, BadWorld, TooMany
from headamid.worlds import World
from tests.samples import DIAMOND, NAMED, NO_SEQUENCES, ONE, ROOTS, SAME, TWELVE, random_worlds, told

RIGHT = ((), 1, ())
BAD_ENTRIES = NO_SEQUENCES + ((), [], ((), 1), [(), 1], ((), 1, (), ()), [[], 0, [], None])
BAD_FIELDS = (None, True, False, 1.0, -1, 4, "1", (), (1,), [])
BAD_METHODS = NO_SEQUENCES + (
    (0, 0), (6,), (-1,), (True,), (1.0,), [None], ["0"], [[]], (0, 1, 2, 3), (5, 1, 5), [0, (1,)], (0, False),
)


def bad_bases(c):
    """Things that cannot be the bases of class c."""
    rows = [(c,), (c + 1,), (-1,), (True,), (False,), (0.0,), ("0",), [None], [[]], [{}], (11,)]
    if c > 0:
        rows += [(0, 0), [0, c], (0, -1), (0, False), (c - 1, c - 1.0)]
    return list(NO_SEQUENCES) + rows


class WorldTest(unittest.TestCase):
    def fault(self, classes):
        """The index and word with which World refuses a thing."""
        with self.assertRaises(BadWorld) as caught:
            World(classes)
        self.assertEqual(list(told(caught.exception)), ["index", "what"])
        return caught.exception.index, caught.exception.what

    def test_attributes_of_one_class(self):
        world = World([[[], 3, [5, 0, 2]]])
        self.assertEqual(world.classes, (((), 3, (0, 2, 5)),))
        self.assertEqual((world.bases, world.owns, world.methods), (((),), (3,), ((0, 2, 5),)))
        self.assertEqual((world.elders, world.heirs), (((),), ((),)))
        self.assertEqual(world.all_fields, ((0, 0), (0, 1), (0, 2)))
        self.assertEqual(len(world), 1)

    def test_attributes_of_twelve_classes(self):
        bases = [(), (0,), [0], (2, 1), (), (3, 4), [5], (4, 0), (), (8, 7, 0), (6, 9), (10, 3)]
        world = World([[row, c % 4, [5, c % 5]] for c, row in enumerate(bases)])
        self.assertEqual(world.bases, tuple(tuple(row) for row in bases))
        self.assertEqual(world.owns, (0, 1, 2, 3) * 3)
        self.assertEqual(world.methods, tuple((c % 5, 5) for c in range(12)))
        self.assertEqual(world.elders, (
            (), (0,), (0,), (0, 1, 2), (), (0, 1, 2, 3, 4), (0, 1, 2, 3, 4, 5), (0, 4), (), (0, 4, 7, 8),
            (0, 1, 2, 3, 4, 5, 6, 7, 8, 9), (0, 1, 2, 3, 4, 5, 6, 7, 8, 9, 10),
        ))
        self.assertEqual(world.heirs, (
            (1, 2, 3, 5, 6, 7, 9, 10, 11), (3, 5, 6, 10, 11), (3, 5, 6, 10, 11), (5, 6, 10, 11),
            (5, 6, 7, 9, 10, 11), (6, 10, 11), (10, 11), (9, 10, 11), (9, 10, 11), (10, 11), (11,), (),
        ))
        self.assertEqual(world.classes, tuple(zip(world.bases, world.owns, world.methods)))
        self.assertEqual(len(world), 12)
        self.assertEqual(list(world), list(world.classes))
        self.assertEqual(len(world.all_fields), 18)

    def test_all_is_of_tuples(self):
        for world in NAMED:
            for attribute in (world.classes, world.bases, world.methods, world.elders, world.heirs, world.all_fields):
                self.assertIs(type(attribute), tuple)
                self.assertEqual({type(item) for item in attribute} - {tuple}, set())
            self.assertIs(type(world.owns), tuple)
            self.assertEqual({type(item) for entry in world for item in entry}, {tuple, int})

    def test_elders_and_heirs(self):
        for world in random_worlds(1, 60, 12, 3):
            for c in range(len(world)):
                found = set()
                waiting = list(world.bases[c])
                while waiting:
                    elder = waiting.pop()
                    found.add(elder)
                    waiting += world.bases[elder]
                self.assertEqual(world.elders[c], tuple(sorted(found)))
                self.assertEqual(world.heirs[c], tuple(h for h in range(len(world)) if c in world.elders[h]))
            self.assertEqual(world.all_fields, tuple((c, i) for c, n in enumerate(world.owns) for i in range(n)))

    def test_all_fields_is_a_property(self):
        self.assertIsInstance(World.all_fields, property)

    def test_many(self):
        for thing in NO_SEQUENCES:
            self.assertEqual(self.fault(thing), (0, "many"))
        self.assertEqual(self.fault(()), (0, "many"))
        self.assertEqual(self.fault([]), (0, "many"))
        self.assertEqual(self.fault([RIGHT] * 13), (0, "many"))
        self.assertEqual(self.fault([None] * 13), (0, "many"))
        self.assertEqual(len(World([RIGHT] * 12)), 12)

    def test_class_at_every_place(self):
        for at in range(12):
            for entry in BAD_ENTRIES:
                self.assertEqual(self.fault([RIGHT] * at + [entry]), (at, "class"))

    def test_base_at_every_place(self):
        for at in range(12):
            for row in bad_bases(at):
                self.assertEqual(self.fault([RIGHT] * at + [(row, 0, ())]), (at, "base"))

    def test_fields_at_every_place(self):
        for at in range(12):
            for own in BAD_FIELDS:
                self.assertEqual(self.fault([RIGHT] * at + [[(), own, ()]]), (at, "fields"))

    def test_method_at_every_place(self):
        for at in range(12):
            for names in BAD_METHODS:
                self.assertEqual(self.fault([RIGHT] * at + [((), 0, names)]), (at, "method"))

    def test_two_faults_at_once(self):
        self.assertEqual(self.fault([((0,), 4, (6,))]), (0, "base"))
        self.assertEqual(self.fault([((), 4, (6,))]), (0, "fields"))
        self.assertEqual(self.fault([RIGHT, ((), 0, (6,)), (None, 9, 9)]), (1, "method"))
        self.assertEqual(self.fault([RIGHT, ((), True, ()), 7]), (1, "fields"))
        self.assertEqual(self.fault([7, RIGHT, ((5,), 0, ())]), (0, "class"))
        self.assertEqual(self.fault([RIGHT, ((1,), 0, ()), 7]), (1, "base"))

    def test_a_base_may_be_an_elder_of_another(self):
        self.assertEqual(World([RIGHT, ((0,), 0, ()), ((0, 1), 0, ())]).bases[2], (0, 1))
        self.assertEqual(World([RIGHT, ((0,), 0, ()), ((1, 0), 0, ())]).bases[2], (1, 0))

    def test_later_changes_have_no_effect(self):
        bases, names = [0], [3, 1]
        entry = [bases, 2, names]
        classes = [[[], 1, []], entry]
        world = World(classes)
        bases.append(7)
        names.clear()
        entry[1] = 0
        classes.append(None)
        self.assertEqual(world.classes, (((), 1, ()), ((0,), 2, (1, 3))))
        self.assertEqual((world.bases[1], world.owns[1], world.methods[1]), ((0,), 2, (1, 3)))

    def test_nothing_passed_in_is_changed(self):
        classes = [[[], 1, [4, 2]], [[0], 2, [3, 1, 0]]]
        World(classes)
        self.assertEqual(classes, [[[], 1, [4, 2]], [[0], 2, [3, 1, 0]]])

    def test_equality(self):
        world = World([((), 1, (2, 1)), ((0,), 0, ())])
        same = World([[[], 1, [1, 2]], [[0], 0, []]])
        self.assertIs(world == same, True)
        self.assertIs(world != same, False)
        for other in (World([((), 1, (2, 1)), ((), 0, ())]), World([((), 2, (2, 1)), ((0,), 0, ())]),
                      World([((), 1, (2,)), ((0,), 0, ())]), World([((), 1, (1, 2))]),
                      None, 0, True, world.classes, object(), World, SAME):
            self.assertIs(world == other, False)
            self.assertIs(world != other, True)
        two = World([RIGHT, RIGHT, ((0, 1), 0, ())])
        self.assertIs(two == World([RIGHT, RIGHT, ((1, 0), 0, ())]), False)


class ChangedWorldTest(unittest.TestCase):
    def test_with_class(self):
        world = World([((), 1, ())])
        longer = world.with_class([0], 2, [3, 1])
        self.assertEqual(longer, World([((), 1, ()), ((0,), 2, (1, 3))]))
        self.assertEqual(world.classes, (((), 1, ()),))
        for _ in range(10):
            longer = longer.with_class((0, 1), 0, ())
        self.assertEqual(len(longer), 12)

    def test_with_class_refused(self):
        for world in (ONE, DIAMOND, TWELVE.without_last()):
            many = len(world)
            for row in bad_bases(many):
                self.check_refused(world, (row, 9, 9), many, "base")
            for own in BAD_FIELDS:
                self.check_refused(world, ((0,), own, 9), many, "fields")
            for names in BAD_METHODS:
                self.check_refused(world, ((0,), 0, names), many, "method")
        self.check_refused(TWELVE, ((0,), 0, ()), 0, "many")
        self.check_refused(TWELVE, (None, None, None), 0, "many")

    def check_refused(self, world, entry, index, what):
        before = world.classes
        with self.assertRaises(BadWorld) as caught:
            world.with_class(*entry)
        self.assertEqual(told(caught.exception), {"index": index, "what": what})
        self.assertEqual(world.classes, before)

    def test_without_last(self):
        for world in random_worlds(2, 20, 12, 3, True):
            longer = world
            while len(longer) > 1:
                shorter = longer.without_last()
                self.assertEqual(shorter, World(longer.classes[:-1]))
                longer = shorter
            with self.assertRaises(BadWorld) as caught:
                longer.without_last()
            self.assertEqual(told(caught.exception), {"index": 0, "what": "many"})

    def test_renamed(self):
        world = World([((), 1, (1,)), ((), 2, (2,)), ((1, 0), 3, ()), ((0,), 0, (3,))])
        self.assertEqual(world.renamed([1, 0, 3, 2]).classes, (
            ((), 2, (2,)), ((), 1, (1,)), ((1,), 0, (3,)), ((0, 1), 3, ()),
        ))
        self.assertEqual(world.renamed((0, 3, 1, 2)).classes, (
            ((), 1, (1,)), ((0,), 0, (3,)), ((), 2, (2,)), ((2, 0), 3, ()),
        ))
        self.assertEqual(world.renamed((0, 1, 2, 3)), world)

    def test_renamed_by_all_orders(self):
        for world in random_worlds(3, 12, 5, 2, True):
            for order in itertools.permutations(range(len(world))):
                wrong = any(order.index(base) > order.index(c) for c in order for base in world.bases[c])
                if wrong:
                    with self.assertRaises(BadOrder) as caught:
                        world.renamed(order)
                    self.assertEqual(told(caught.exception), {})
                else:
                    after = world.renamed(list(order))
                    for k, c in enumerate(order):
                        self.assertEqual(after.owns[k], world.owns[c])
                        self.assertEqual(after.methods[k], world.methods[c])
                        self.assertEqual(tuple(order[base] for base in after.bases[k]), world.bases[c])
                    back = [order.index(c) for c in range(len(order))]
                    self.assertEqual(after.renamed(back), world)

    def test_renamed_by_no_order(self):
        for order in NO_SEQUENCES + ((), (0, 1), (0, 0, 1), (0, 1, 3), (0, True, 2), (0, 1.0, 2), [0, 1, 2, 3],
                                     [[]] * 3):
            with self.assertRaises(BadOrder):
                ROOTS.renamed(order)
        with self.assertRaises(BadOrder):
            ONE.renamed([False])

    def test_the_world_before_stays_as_it_was(self):
        for world in (ONE, DIAMOND, TWELVE) + tuple(random_worlds(34, 10, 12, 3, True)):
            same = World([[list(bases), own, list(names)] for bases, own, names in world])
            for call in (lambda: world.with_class([0], 2, [3]), world.without_last, lambda: world.beside(world),
                         lambda: world.renamed(list(range(len(world))))):
                try:
                    call()
                except (BadWorld, TooMany):
                    pass
                self.assertEqual(vars(world), vars(same))
            self.assertEqual(world.renamed(tuple(range(len(world)))), same)

    def test_beside(self):
        one = World([((), 1, (1,)), ((0,), 2, ())])
        other = World([((), 3, ()), ((), 0, (5,)), ((1, 0), 1, (0,))])
        self.assertEqual(one.beside(other).classes, (
            ((), 1, (1,)), ((0,), 2, ()), ((), 3, ()), ((), 0, (5,)), ((3, 2), 1, (0,)),
        ))
        self.assertEqual(other.beside(one).classes[3:], (((), 1, (1,)), ((3,), 2, ())))
        self.assertEqual((len(one), len(other)), (2, 3))
        self.assertEqual(len(one.beside(one)), 4)

    def test_beside_of_twelve_and_more(self):
        self.assertEqual(len(TWELVE.without_last().beside(ONE)), 12)
        for one, other, count in ((TWELVE, ONE, 13), (ONE, TWELVE, 13), (TWELVE, TWELVE, 24), (DIAMOND, TWELVE, 16)):
            with self.assertRaises(TooMany) as caught:
                one.beside(other)
            self.assertEqual(told(caught.exception), {"count": count})


if __name__ == "__main__":
    unittest.main()

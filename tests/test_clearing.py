"""[7.3]: clear lots, and the methods that a world lacks for being clear."""

import itertools
import random
import unittest

from headamid.clearing import least_clear, lot_answers, missing_methods, unclear_in
from headamid.definers import two_answers
from headamid.errors import BadLot, NoClass
from headamid.worlds import World
from tests.samples import (
    DIAMOND, NO_SEQUENCES, ONE, SAME, TWELVE, WIDE, all_parts, caught, definers_in, due_answers, name_worlds,
    random_worlds,
)

SMALL = [ONE, DIAMOND] + random_worlds(1101, 120, 6, 0) + name_worlds(1102, 40, 5)
EXAMPLE = World([((), 0, (0,)), ((0,), 0, (0,)), ((0,), 0, (0, 3)), ((1, 2), 0, ()), ((3, 1), 0, ()), ((4,), 0, (0,))])


def is_clear(world, lot):
    return all(len(due_answers(world, c, lot)) < 2 for c in range(len(world)))


def passed(rng, lot):
    """The lot in some order, with doubles, as a list or a tuple."""
    row = list(lot) + [rng.choice(lot) for _ in range(rng.randint(0, 2)) if lot]
    rng.shuffle(row)
    return rng.choice((list, tuple))(row)


class LotTest(unittest.TestCase):
    def test_every_lot_of_small_worlds(self):
        rng = random.Random(1103)
        unclear = 0
        for world in SMALL:
            for lot in all_parts(range(len(world))):
                due = [due_answers(world, c, lot) for c in range(len(world))]
                found = [lot_answers(world, passed(rng, lot), c) for c in range(len(world))]
                self.assertEqual(found, due)
                self.assertEqual({type(row) for row in found}, {tuple})
                due = tuple(c for c, row in enumerate(due) if len(row) > 1)
                self.assertEqual(unclear_in(world, passed(rng, lot)), due)
                self.assertIs(type(unclear_in(world, lot)), tuple)
                unclear += len(due) > 0
        self.assertGreater(unclear, 300)

    def test_least_clear_against_all_clear_lots(self):
        rng = random.Random(1104)
        longer = 0
        for world in SMALL:
            lots = all_parts(range(len(world)))
            clear = [set(lot) for lot in lots if is_clear(world, lot)]
            for one, other in itertools.combinations(clear[:12], 2):
                self.assertIn(one & other, clear)
            for lot in lots:
                found = least_clear(world, passed(rng, lot))
                self.assertIs(type(found), tuple)
                self.assertEqual(list(found), sorted(set(found)))
                self.assertIn(set(found), clear)
                above = [other for other in clear if other >= set(lot)]
                self.assertEqual(set(found), set.intersection(*above))
                longer += found != lot
        self.assertGreater(longer, 300)

    def test_empty_and_whole(self):
        for world in SMALL + [TWELVE, WIDE]:
            self.assertEqual((least_clear(world, ()), unclear_in(world, [])), ((), ()))
            whole = tuple(range(len(world)))
            self.assertEqual((least_clear(world, whole), unclear_in(world, list(whole[::-1]))), (whole, ()))
            self.assertEqual([lot_answers(world, whole, c) for c in whole], [(c,) for c in whole])
            self.assertEqual([lot_answers(world, (), c) for c in whole], [()] * len(whole))

    def test_a_class_more(self):
        rng = random.Random(1105)
        seen = {True: 0, False: 0}
        for world in SMALL:
            many = len(world)
            for lot in all_parts(range(many)):
                longer = world.with_class(rng.sample(range(many), rng.randint(0, many)), 0, ())
                kept = least_clear(world, lot)
                found = least_clear(longer, lot)
                self.assertIn(found, (kept, kept + (many,)))
                seen[many in found] += 1
        self.assertGreater(min(seen.values()), 300)

    def test_twelve_classes(self):
        rows = [()] * 4 + [(0, 1), (2, 3), (4, 5), (0, 2), (6, 7), (8,), (1, 9), (10, 8)]
        world = World([(row, 0, ()) for row in rows])
        self.assertEqual(least_clear(world, [3, 0, 1, 2]), (0, 1, 2, 3, 4, 5, 6, 7, 8))
        self.assertEqual(unclear_in(world, (3, 0, 1, 2)), (4, 5, 6, 7, 8, 9, 10, 11))
        self.assertEqual(lot_answers(world, (3, 0, 1, 2, 4), 11), (2, 3, 4))

    def test_refused_in_order(self):
        for thing in NO_SEQUENCES:
            self.assertEqual(caught(BadLot, lot_answers, DIAMOND, thing, 99), {"index": 0})
            for call in (unclear_in, least_clear):
                self.assertEqual(caught(BadLot, call, DIAMOND, thing), {"index": 0})
        for thing in (4, -1, True, False, 1.0, None, "0", (0,), [0], {}, SAME):
            for index in range(4):
                lot = [3, 0, 3, 1]
                lot[index] = thing
                for row in (lot, tuple(lot), lot + [None]):
                    self.assertEqual(caught(BadLot, lot_answers, DIAMOND, row, 99), {"index": index})
                    for call in (unclear_in, least_clear):
                        self.assertEqual(caught(BadLot, call, DIAMOND, row), {"index": index})
            self.assertIs(caught(NoClass, lot_answers, DIAMOND, [0, 1], thing)["cls"], thing)

    def test_what_is_passed_in_stays(self):
        lot = [5, 2, 0, 1, 2]
        self.assertEqual(least_clear(EXAMPLE, lot), (0, 1, 2, 3, 5))
        self.assertEqual((unclear_in(EXAMPLE, lot), lot_answers(EXAMPLE, lot, 4)), ((3, 4), (1, 2)))
        self.assertEqual(lot, [5, 2, 0, 1, 2])


class MissingTest(unittest.TestCase):
    def test_just_these_are_missing(self):
        missing = made = 0
        for world in name_worlds(1106, 300, 8) + random_worlds(1107, 100, 8, 0, methods=True):
            found = missing_methods(world)
            self.assertEqual(list(found), sorted(set(found)))
            self.assertEqual({type(item) for item in (found, *found)}, {tuple})
            for name in range(6):
                lot = definers_in(world, name)
                more = tuple(c for c, other in found if other == name)
                self.assertFalse(set(lot) & set(more))
                self.assertTrue(is_clear(world, lot + more))
                for c in more:
                    self.assertFalse(is_clear(world, [k for k in lot + more if k != c]))
                missing += len(more)
            made += self.check_made(world, found)
            self.assertEqual(found == (), two_answers(world) == ())
        self.assertGreater(min(missing, made), 50)

    def check_made(self, world, found):
        """The world with these methods, where no class gets more than three, is clear."""
        rows = [list(methods) for methods in world.methods]
        for c, name in found:
            rows[c].append(name)
        if found == () or max(map(len, rows)) > 3:
            return False
        self.assertEqual(two_answers(World([(e[0], e[1], row) for e, row in zip(world, rows)])), ())
        return True

    def test_all_clear_worlds_with_more_methods_have_them(self):
        for world in name_worlds(1108, 60, 5):
            lot = definers_in(world, 0)
            due = {c for c, name in missing_methods(world) if name == 0}
            for more in all_parts([c for c in range(len(world)) if c not in lot]):
                if is_clear(world, lot + more):
                    self.assertLessEqual(due, set(more))

    def test_by_hand(self):
        self.assertEqual(missing_methods(EXAMPLE), ((3, 0),))
        self.assertEqual(missing_methods(ONE), ())
        # Class 2 defines three names and lacks two more.
        world = World([((), 0, (4, 5)), ((), 0, (5, 4)), ((0, 1), 0, (1, 2, 3)), ((2,), 0, ())])
        self.assertEqual(missing_methods(world), ((2, 4), (2, 5)))


if __name__ == "__main__":
    unittest.main()

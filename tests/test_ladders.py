"""[4.1] to [4.4]: hues, fewest hues, ladders, one look."""

import itertools
import random
import unittest

from headamid.errors import BadHues, BadWorld, NoClass, NoHue, NoLadder, NotLine, TooMany
from headamid.ladders import (
    Clash, Ladders, Look, apart_pairs, check_hues, fewest_hues, floor_lot, hue_fault,
)
from headamid.worlds import World
from tests.samples import (
    DIAMOND, NAMED, NO_SEQUENCES, ONE, ROOTS, SAME, TWELVE, caught, plain_world, random_worlds, told,
)

NO_HUES = (-1, 8, True, False, 1.0, "0", (), (0,), [0], {}, object(), SAME)
SMALL = random_worlds(201, 150, 5, 1, methods=True)
MIDDLE = random_worlds(202, 60, 8, 1)


def line(world, a, b):
    return a == b or a in world.elders[b] or b in world.elders[a]


def due_clash(world, hues):
    """The first class with two classes of one hue that are not on one line, and these two."""
    for c in range(len(world)):
        for first, second in itertools.combinations(sorted((c, *world.elders[c])), 2):
            if hues[first] is not None and hues[first] == hues[second] and not line(world, first, second):
                return c, first, second
    return None


def drawn_hues(rng, world):
    """Hues that are often right: few numbers, some None."""
    most = rng.choice((1, 2, 3, 7))
    return tuple(rng.choice([None] + list(range(most + 1))) for _ in world)


def right_hues(rng, world):
    """Some right hues."""
    for _ in range(400):
        hues = drawn_hues(rng, world)
        if due_clash(world, hues) is None:
            return hues
    return tuple([None] * (len(world) - 1) + [3])


class HuesTest(unittest.TestCase):
    def test_checked(self):
        self.assertEqual(check_hues(ROOTS, [7, None, 0]), (7, None, 0))
        self.assertIs(type(check_hues(ROOTS, [7, None, 0])), tuple)
        for function in (check_hues, hue_fault, Ladders):
            for thing in NO_SEQUENCES + ((), (0,), [0, 0], [0] * 4, (None,) * 4, "012"):
                self.assertEqual(caught(BadHues, function, ROOTS, thing), {"index": 0})
            for index in range(3):
                for thing in NO_HUES:
                    hues = [0, None, 1]
                    hues[index] = thing
                    self.assertEqual(caught(BadHues, function, ROOTS, hues), {"index": index})
                    hues = hues[:index + 1] + [thing] * (2 - index)
                    self.assertEqual(caught(BadHues, function, ROOTS, tuple(hues)), {"index": index})

    def test_faults(self):
        rng = random.Random(203)
        right = wrong = 0
        for world in SMALL + MIDDLE + list(NAMED):
            for _ in range(6):
                hues = drawn_hues(rng, world)
                due = due_clash(world, hues)
                fault = hue_fault(world, list(hues))
                if due is None:
                    right += 1
                    self.assertIsNone(fault)
                else:
                    wrong += 1
                    self.assertIs(type(fault), Clash)
                    self.assertEqual(list(told(fault).items()), list(zip(("cls", "first", "second"), due)))
                    self.assertEqual(caught(NotLine, Ladders, world, hues), told(fault))
        self.assertGreater(min(right, wrong), 80)

    def test_right_exactly_if_no_two_apart_have_one_hue_and_if_depths_differ(self):
        rng = random.Random(204)
        for world in SMALL + MIDDLE:
            for _ in range(6):
                hues = drawn_hues(rng, world)
                right = hue_fault(world, hues) is None
                apart = [pair for pair in apart_pairs(world) if hues[pair[0]] == hues[pair[1]] is not None]
                self.assertEqual(right, apart == [])
                self.assertEqual(right, not any(self.has_one_depth(world, hues, c) for c in range(len(world))))

    def has_one_depth(self, world, hues, c):
        seen = [(hues[k], sum(hues[e] == hues[k] for e in world.elders[k]))
                for k in (*world.elders[c], c) if hues[k] is not None]
        return len(set(seen)) < len(seen)

    def test_faults_by_hand(self):
        self.assertIsNone(hue_fault(DIAMOND, (0, 0, 1, 0)))
        self.assertIsNone(hue_fault(DIAMOND, (0, None, None, 0)))
        self.assertEqual(told(hue_fault(DIAMOND, (0, 1, 1, 0))), {"cls": 3, "first": 1, "second": 2})
        self.assertIsNone(hue_fault(DIAMOND.without_last(), (0, 1, 1)))
        self.assertIsNone(hue_fault(ROOTS, (5, 5, 5)))
        two = plain_world([(), (), (), (1, 2), (0, 1, 2)], [0] * 5)
        self.assertEqual(told(hue_fault(two, (0, 0, 0, 1, 1))), {"cls": 3, "first": 1, "second": 2})
        self.assertEqual(told(hue_fault(two, (0, 1, 0, 0, 1))), {"cls": 4, "first": 0, "second": 2})


class FewestTest(unittest.TestCase):
    def test_apart_pairs(self):
        for world in SMALL + MIDDLE + list(NAMED):
            due = [(a, b) for a, b in itertools.combinations(range(len(world)), 2)
                   if not line(world, a, b) and set(world.heirs[a]) & set(world.heirs[b])]
            self.assertEqual(apart_pairs(world), tuple(due))

    def test_fewest_hues_by_going_through_all_hues(self):
        for world in SMALL + random_worlds(205, 40, 6, 0):
            many = len(world)
            for k in range(1, many + 1):
                rows = [row for row in itertools.product(range(k), repeat=many) if due_clash(world, row) is None]
                if rows:
                    break
            self.assertEqual(fewest_hues(world), rows[0])
            self.assertLessEqual(len(floor_lot(world)), k)

    def test_floor_lot_by_going_through_all_lots(self):
        for world in SMALL + MIDDLE:
            pairs = apart_pairs(world)
            lots = [lot for size in range(1, len(world) + 1) for lot in itertools.combinations(range(len(world)), size)
                    if all(pair in pairs for pair in itertools.combinations(lot, 2))]
            most = max(len(lot) for lot in lots)
            self.assertEqual(floor_lot(world), min(lot for lot in lots if len(lot) == most))

    def test_by_hand(self):
        self.assertEqual((fewest_hues(ONE), floor_lot(ONE), apart_pairs(ONE)), ((0,), (0,), ()))
        self.assertEqual((fewest_hues(DIAMOND), floor_lot(DIAMOND)), ((0, 0, 1, 0), (1, 2)))
        three = plain_world([(), (), (), (2, 1, 0)], [0] * 4)
        self.assertEqual((fewest_hues(three), floor_lot(three)), ((0, 1, 2, 0), (0, 1, 2)))

    def test_eight_classes_and_nine(self):
        wide = World([((), 0, ())] * 7 + [(tuple(range(7)), 0, ())])
        self.assertEqual(fewest_hues(wide), (0, 1, 2, 3, 4, 5, 6, 0))
        self.assertEqual(floor_lot(wide), (0, 1, 2, 3, 4, 5, 6))
        for world in (wide, wide.without_last().with_class((5, 6), 0, ()), World([((), 0, ())] * 8)):
            self.assertIsNone(due_clash(world, fewest_hues(world)))
        for world in (wide.with_class((), 0, ()), TWELVE):
            for function in (fewest_hues, floor_lot):
                self.assertEqual(caught(TooMany, function, world), {"count": len(world)})
        self.assertEqual(len(apart_pairs(wide.with_class((), 0, ()))), 21)
        self.assertIsNone(hue_fault(TWELVE, (0,) * 12))

    def test_drawn_worlds_of_eight_classes(self):
        rng = random.Random(206)
        for _ in range(60):
            world = World([(rng.sample(range(c), min(c, rng.randint(0, 4))), 0, ()) for c in range(8)])
            hues = fewest_hues(world)
            self.assertIsNone(due_clash(world, hues))
            self.assertEqual(sorted(set(hues)), list(range(max(hues) + 1)))
            self.assertLessEqual(len(floor_lot(world)), max(hues) + 1)


class LaddersTest(unittest.TestCase):
    def test_ladders_depths_and_looks_for_every_couple(self):
        rng = random.Random(207)
        for world in SMALL + MIDDLE + list(NAMED):
            hues = right_hues(rng, world)
            ladders = Ladders(world, list(hues))
            self.assertEqual((ladders.world, ladders.hues, type(ladders.hues)), (world, hues, tuple))
            for c in range(len(world)):
                for hue in range(8):
                    due = [k for k in sorted((c, *world.elders[c])) if hues[k] == hue]
                    self.assertEqual(ladders.ladder_of(c, hue), tuple(due))
                for target in range(len(world)):
                    self.check_look(ladders, c, target)

    def check_look(self, ladders, c, target):
        world, hue = ladders.world, ladders.hues[target]
        if hue is None:
            self.assertEqual(caught(NoLadder, ladders.depth_of, target), {"cls": target})
            self.assertEqual(caught(NoLadder, ladders.one_look, c, target), {"cls": target})
            return
        depth = sum(ladders.hues[e] == hue for e in world.elders[target])
        self.assertEqual(ladders.depth_of(target), depth)
        ladder = [k for k in sorted((c, *world.elders[c])) if ladders.hues[k] == hue]
        look = ladders.one_look(c, target)
        self.assertIs(type(look), Look)
        found = ladder[depth] if depth < len(ladder) else None
        self.assertEqual(list(told(look).items()), [
            ("hue", hue), ("place", depth), ("found", found), ("answer", c == target or target in world.elders[c])])
        self.assertIs(type(look.answer), bool)

    def test_by_hand(self):
        ladders = Ladders(DIAMOND, (0, 0, 1, 0))
        self.assertEqual([ladders.ladder_of(3, hue) for hue in (0, 1, 2)], [(0, 1, 3), (2,), ()])
        self.assertEqual([ladders.depth_of(c) for c in range(4)], [0, 1, 0, 2])
        self.assertEqual(told(ladders.one_look(2, 1)), {"hue": 0, "place": 1, "found": None, "answer": False})
        self.assertEqual(told(ladders.one_look(3, 2)), {"hue": 1, "place": 0, "found": 2, "answer": True})
        self.assertEqual(told(ladders.one_look(1, 2)), {"hue": 1, "place": 0, "found": None, "answer": False})
        roots = Ladders(ROOTS, (4, 4, 4))
        self.assertEqual(told(roots.one_look(0, 1)), {"hue": 4, "place": 0, "found": 0, "answer": False})

    def test_refused(self):
        ladders = Ladders(DIAMOND, (0, 0, None, 0))
        for thing in (4, -1, True, False, 0.0, None, "0", (0,)):
            self.assertEqual(caught(NoClass, ladders.ladder_of, thing, 99), {"cls": thing})
            self.assertEqual(caught(NoClass, ladders.depth_of, thing), {"cls": thing})
            self.assertEqual(caught(NoClass, ladders.one_look, thing, 99), {"cls": thing})
            self.assertEqual(caught(NoClass, ladders.one_look, 0, thing), {"cls": thing})
            self.assertEqual(caught(NoClass, ladders.one_look, thing, 2), {"cls": thing})
        for thing in NO_HUES + (None,):
            self.assertIs(caught(NoHue, ladders.ladder_of, 2, thing)["hue"], thing)
        self.assertEqual(caught(NotLine, Ladders, DIAMOND, (0, 2, 2, 0)), {"cls": 3, "first": 1, "second": 2})

    def test_later_changes_have_no_effect(self):
        hues = [0, 0, 1, 0]
        ladders = Ladders(DIAMOND, hues)
        hues[0] = 5
        self.assertEqual(ladders.hues, (0, 0, 1, 0))


class ToComeTest(unittest.TestCase):
    def test_clashes_and_classes_to_come(self):
        rng = random.Random(208)
        clashes = 0
        for world in SMALL + MIDDLE:
            hues = right_hues(rng, world)
            ladders = Ladders(world, hues)
            many = len(world)
            for _ in range(4):
                bases = rng.sample(range(many), rng.randint(0, many))
                longer = world.with_class(bases, 2, (1,))
                due = due_clash(longer, hues + (None,))
                clash = ladders.clash_of(bases)
                if due is not None:
                    clashes += 1
                    self.assertIs(type(clash), Clash)
                    self.assertEqual(tuple(told(clash).values()), due)
                    self.assertEqual(due[0], many)
                    for hue in (None, 0, 7):
                        self.assertEqual(caught(NotLine, ladders.with_class, bases, 2, (1,), hue), told(clash))
                    continue
                self.assertIsNone(clash)
                for hue in (None, 0, 7):
                    self.check_longer(ladders, ladders.with_class(bases, 2, [1], hue), longer, hue)
        self.assertGreater(clashes, 30)

    def check_longer(self, ladders, found, longer, hue):
        self.assertIs(type(found), Ladders)
        self.assertEqual((found.world, found.hues), (longer, ladders.hues + (hue,)))
        self.assertEqual(len(ladders.world), len(longer) - 1)
        for c in range(len(ladders.world)):
            for k in range(8):
                self.assertEqual(found.ladder_of(c, k), ladders.ladder_of(c, k))
            if ladders.hues[c] is not None:
                self.assertEqual(found.depth_of(c), ladders.depth_of(c))
        for target in range(len(longer)):
            if found.hues[target] is not None:
                answer = target == len(longer) - 1 or target in longer.elders[-1]
                self.assertIs(found.one_look(len(longer) - 1, target).answer, answer)

    def test_clash_by_hand(self):
        ladders = Ladders(plain_world([(), (), (), (0,)], [0] * 4), (1, 1, 1, 1))
        self.assertEqual(told(ladders.clash_of([2, 3])), {"cls": 4, "first": 0, "second": 2})
        self.assertEqual(told(ladders.clash_of((2, 1))), {"cls": 4, "first": 1, "second": 2})
        self.assertIsNone(ladders.clash_of((3, 0)))
        self.assertIsNone(ladders.clash_of(()))

    def test_refused_in_order(self):
        world = plain_world([(), ()], [0, 0])
        ladders = Ladders(world, (0, 0))
        for thing in NO_SEQUENCES + ((2,), (0, 0), (True,), (0, -1), (0.0,)):
            self.assertEqual(caught(BadWorld, ladders.clash_of, thing), {"index": 2, "what": "base"})
            self.assertEqual(caught(BadWorld, ladders.with_class, thing, 9, 9, 9), {"index": 2, "what": "base"})
        self.assertEqual(caught(BadWorld, ladders.with_class, (0, 1), 4, 9, 9), {"index": 2, "what": "fields"})
        self.assertEqual(caught(BadWorld, ladders.with_class, (0, 1), 3, 9, 9), {"index": 2, "what": "method"})
        for thing in NO_HUES:
            self.assertEqual(caught(BadHues, ladders.with_class, (0, 1), 3, (), thing), {"index": 2})
        self.assertEqual(caught(NotLine, ladders.with_class, (0, 1), 3, (), 1), {"cls": 2, "first": 0, "second": 1})
        full = Ladders(TWELVE, (0,) * 12)
        self.assertEqual(caught(BadWorld, full.clash_of, None), {"index": 0, "what": "many"})
        self.assertEqual(caught(BadWorld, full.with_class, None, 9, 9, 9), {"index": 0, "what": "many"})
        self.assertEqual((len(ladders.world), ladders.hues), (2, (0, 0)))


if __name__ == "__main__":
    unittest.main()

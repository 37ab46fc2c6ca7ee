"""[2.8] to [2.13], [2.15]: sides, close layings, odd rings, layings counted and listed."""

import copy
import itertools
import unittest

from headamid.errors import BadSides, BrokenTie
from headamid.layings import Laying, close_fault, mirrored_laying
from headamid.rings import (
    OddRing, all_layings, broken_tie, check_sides, count_layings, laid_world, laying_by, ring_fault,
)
from headamid.ties import Tie, all_ties, pieces_of
from tests.samples import (
    BOTH_SENSES, CHAIN, DIAMOND, EXAMPLE, NAMED, NO_SEQUENCES, ONE, ROOTS, SAME, THREE, WIDE, brute_layings, is_close,
    plain_world, random_worlds, small_worlds, tie_row, told,
)

FIVE = plain_world([()] * 5 + [(c, (c + 1) % 5) for c in range(5)], [1] * 5 + [0] * 5)
SQUARE = plain_world([()] * 4 + [(c, (c + 1) % 4) for c in range(4)], [1] * 4 + [0] * 4)


def all_sides(world):
    """All rows of sides of a world."""
    return list(itertools.product(("up", "down"), repeat=len(world.all_fields)))


def due_broken(world, sides):
    """The first tie whose two fields do not have the sides that it asks for."""
    side = dict(zip(world.all_fields, sides))
    for tie in all_ties(world):
        if tie.sense == "alike" and side[tie.first] != side[tie.second]:
            return tie
        if tie.sense == "unlike" and side[tie.first] == side[tie.second]:
            return tie
    return None


def odd_ring_length(world):
    """The least length of an odd ring, found by lengthening all walks from all fields at once; None if none is."""
    ties = [tie_row(tie) for tie in all_ties(world)]
    walks = {(field, field, 0) for field in world.all_fields}
    for length in range(1, 2 * len(world.all_fields) + 2):
        longer = set()
        for start, field, odd in walks:
            for first, second, sense, _, _, _ in ties:
                for one, other in ((first, second), (second, first)):
                    if one == field:
                        longer.add((start, other, odd ^ (sense == "unlike")))
        walks = longer
        if any(start == field and odd for start, field, odd in walks):
            return length
    return None


class SidesTest(unittest.TestCase):
    def test_checked(self):
        self.assertEqual(check_sides(ROOTS, ["up", "down", "up"]), ("up", "down", "up"))
        self.assertIs(type(check_sides(ROOTS, ["up", "down", "up"])), tuple)
        self.assertEqual(check_sides(ONE, []), ())

    def test_refused(self):
        for function in (check_sides, broken_tie, laying_by):
            for thing in NO_SEQUENCES + ((), ("up",), ["up"] * 2, ["up"] * 4, [None] * 4, "uuu"):
                self.check_refused(function, thing, 0)
            for index in range(3):
                for thing in (None, True, 0, 1, "", "Up", "up ", "left", b"up", ("up",), ["up"], {}, SAME):
                    sides = ["up", "down", "up"]
                    sides[index] = thing
                    self.check_refused(function, sides, index)
                    self.check_refused(function, tuple(sides[:index + 1]) + ("",) * (2 - index), index)

    def check_refused(self, function, sides, index):
        with self.assertRaises(BadSides) as caught:
            function(ROOTS, sides)
        self.assertEqual(told(caught.exception), {"index": index})

    def test_broken_ties(self):
        for world in (ONE, ROOTS, DIAMOND, EXAMPLE, THREE, BOTH_SENSES) + tuple(small_worlds(17, 40, 5)):
            for sides in all_sides(world):
                due = due_broken(world, sides)
                found = broken_tie(world, list(sides))
                self.assertEqual(found and tie_row(found), due and tie_row(due))

    def test_broken_ties_by_hand(self):
        def row(*sides):
            tie = broken_tie(DIAMOND, sides)
            return tie and tie_row(tie)[:3]
        self.assertIsNone(row("up", "up", "down", "down", "up"))
        self.assertIsNone(row("down", "down", "up", "up", "up"))
        self.assertEqual(row("up", "up", "up", "down", "up"), ((1, 0), (2, 0), "unlike"))
        self.assertEqual(row("up", "up", "down", "up", "up"), ((1, 0), (2, 1), "unlike"))

    def test_alike_ties_may_break_first(self):
        world = plain_world([(), (), (0, 1)], [2, 1, 0])
        tie = broken_tie(world, ("up", "down", "up"))
        self.assertEqual(tie_row(tie), ((0, 0), (0, 1), "alike", 0, 1, 2))

    def test_sides_keep_all_ties_exactly_if_some_close_laying_has_them(self):
        for world in (ONE, ROOTS, CHAIN, EXAMPLE, THREE) + tuple(small_worlds(18, 30, 4)):
            found = {Laying(world, row).side_words() for row in brute_layings(world)}
            self.assertEqual({sides for sides in all_sides(world) if broken_tie(world, sides) is None}, found)


class LayingByTest(unittest.TestCase):
    def test_cell_by_cell(self):
        for world in (ROOTS, CHAIN, DIAMOND, EXAMPLE) + tuple(small_worlds(19, 60, 6)):
            for sides in all_sides(world):
                tie = broken_tie(world, sides)
                if tie is None:
                    self.check_cells(world, sides)
                    continue
                with self.assertRaises(BrokenTie) as caught:
                    laying_by(world, sides)
                self.assertEqual(list(told(caught.exception)), ["tie"])
                self.assertEqual(tie_row(caught.exception.tie), tie_row(tie))

    def check_cells(self, world, sides):
        laying = laying_by(world, list(sides))
        self.assertEqual(laying.side_words(), sides)
        self.assertIsNone(close_fault(world, laying))
        place = {}
        for field, side in zip(world.all_fields, sides):
            near = [place[f] for f in place if f[0] == field[0] or f[0] in world.elders[field[0]]]
            if side == "up":
                place[field] = max([p for p in near if p > 0], default=0) + 1
            else:
                place[field] = min([p for p in near if p < 0], default=0) - 1
            self.assertEqual(laying.place_of(field), place[field])

    def test_by_hand(self):
        sides = ("up", "up", "down", "down", "down")
        self.assertEqual(laying_by(DIAMOND, sides).places, (1, 2, -1, -2, -3))
        self.assertEqual(laying_by(ROOTS, ["down", "up", "down"]).places, (-1, 1, -1))
        self.assertEqual(laying_by(CHAIN, ["down", "up", "up", "down"]).places, (-1, 1, 2, -2))
        self.assertEqual(laying_by(ONE, ()), Laying(ONE, ()))


class LaidWorldTest(unittest.TestCase):
    def check_ring(self, world, ring):
        self.assertIs(type(ring), OddRing)
        self.assertEqual(list(told(ring)), ["ties"])
        self.assertIs(type(ring.ties), tuple)
        self.assertIsNone(ring_fault(world, ring))
        self.assertEqual(len(ring.ties), odd_ring_length(world))

    def test_laying_or_ring(self):
        rings = 0
        for world in NAMED + (FIVE, SQUARE) + tuple(random_worlds(20, 400, 10, 2)):
            found = laid_world(world)
            if isinstance(found, Laying):
                self.assertIsNone(close_fault(world, found))
                self.assertIsNone(odd_ring_length(world))
                side = dict(zip(found.fields, found.side_words()))
                self.assertEqual({side[piece[0]] for piece in pieces_of(world)} - {"up"}, set())
                self.assertEqual(found, laying_by(world, found.side_words()))
            else:
                rings += 1
                self.check_ring(world, found)
                self.assertIsNotNone(odd_ring_length(world))
        self.assertGreater(rings, 20)

    def test_small_worlds_by_trying_all_places(self):
        for world in small_worlds(21, 60, 4):
            self.assertEqual(isinstance(laid_world(world), Laying), len(brute_layings(world)) > 0)

    def test_by_hand(self):
        self.assertEqual(laid_world(DIAMOND).places, (1, 2, -1, -2, 3))
        self.assertEqual(laid_world(SQUARE).places, (1, -1, 1, -1))
        self.assertEqual(laid_world(ONE), Laying(ONE, ()))
        late = plain_world([(), (), (), (), (2, 3), (0, 1), (1, 3)], [1, 1, 1, 1, 0, 0, 0])
        self.assertEqual(laid_world(late).places, (1, -1, -1, 1))

    def test_rings_by_hand(self):
        self.assertEqual(len(laid_world(THREE).ties), 3)
        self.assertEqual(len(laid_world(BOTH_SENSES).ties), 2)
        self.assertEqual(len(laid_world(FIVE).ties), 5)
        self.assertEqual(sorted(tie_row(tie) for tie in laid_world(THREE).ties), [tie_row(t) for t in all_ties(THREE)])
        # A ring of five comes first, one of three behind it is shorter.
        both = FIVE.without_last().without_last().with_class((3, 4), 0, ()).with_class((0, 4), 0, ())
        self.assertEqual(len(laid_world(both).ties), 5)
        self.assertEqual(len(laid_world(both.with_class((0, 2), 0, ())).ties), 3)


class RingFaultTest(unittest.TestCase):
    def test_right_rings(self):
        for world in (THREE, FIVE, BOTH_SENSES):
            ties = laid_world(world).ties
            for at in range(len(ties)):
                turned = ties[at:] + ties[:at]
                for row in (turned, turned[::-1], list(turned), turned * 3):
                    self.assertIsNone(ring_fault(world, OddRing(row)))
        ties = laid_world(THREE).ties
        self.assertIsNone(ring_fault(THREE, OddRing([copy.copy(tie) for tie in ties])))
        self.assertIsNone(ring_fault(THREE, OddRing(ties[:1] * 2 + ties)))
        self.assertIsNone(ring_fault(THREE, OddRing(ties[:1] + ties[:1] + ties[:1] + ties[1:])))

    def test_even_rings(self):
        ties = laid_world(THREE).ties
        for row in (ties * 2, ties[:1] * 2, ties + ties[::-1], ties[:2] + ties[1::-1]):
            self.assertEqual(ring_fault(THREE, OddRing(row)), "even")
        unlike = {(tie.first[0], tie.second[0]): tie for tie in all_ties(SQUARE)}
        square = [unlike[0, 1], unlike[1, 2], unlike[2, 3], unlike[0, 3]]
        self.assertEqual(ring_fault(SQUARE, OddRing(square)), "even")
        alike = [tie for tie in all_ties(DIAMOND) if tie.sense == "alike"]
        self.assertEqual(ring_fault(DIAMOND, OddRing(alike * 2)), "even")

    def test_open_rows(self):
        ties = laid_world(THREE).ties
        for row in (ties[:1], ties[:2], ties + ties[:1], (ties[0], ties[0], ties[0]), ties[:2] * 2 + ties):
            self.assertEqual(ring_fault(THREE, OddRing(row)), "closed")
        five = laid_world(FIVE).ties
        self.assertEqual(ring_fault(FIVE, OddRing((five[0], five[2]))), "closed")
        self.assertEqual(ring_fault(FIVE, OddRing((five[0], five[2], five[1], five[3], five[4]))), "closed")
        one = plain_world([(), (), (), (), (0, 1), (2, 3)], [1, 1, 1, 1, 0, 0])
        self.assertEqual(ring_fault(one, OddRing(all_ties(one))), "closed")

    def test_rows_with_a_tie_that_is_none(self):
        ties = laid_world(THREE).ties
        self.assertEqual(ring_fault(THREE, OddRing(())), "tie")
        self.assertEqual(ring_fault(THREE, OddRing([])), "tie")
        self.assertEqual(ring_fault(ROOTS, OddRing(ties)), "tie")
        others = {"first": (2, 9), "second": (9, 0), "sense": "alike", "a": 0, "b": 9, "heir": 3}
        for at in range(3):
            for name, thing in others.items():
                changed = copy.copy(ties[at])
                setattr(changed, name, thing)
                for row in (ties[:at] + (changed,) + ties[at + 1:], ties + (changed,)):
                    self.assertEqual(ring_fault(THREE, OddRing(row)), "tie")
        turned = [Tie(tie.second, tie.first, tie.sense, tie.a, tie.b, tie.heir) for tie in ties]
        self.assertEqual(ring_fault(THREE, OddRing(turned)), "tie")

    def test_numbers_are_whole_numbers(self):
        tie = all_ties(THREE)[0]
        self.assertEqual((tie.a, tie.first), (1, (1, 0)))
        for changed in (Tie((1, 0), (2, 0), "unlike", True, 2, 4), Tie((1, 0), (2, 0), "unlike", 1, 2.0, 4),
                        Tie((True, 0), (2, 0), "unlike", 1, 2, 4), Tie((1, 0), (2, False), "unlike", 1, 2, 4)):
            self.assertEqual(ring_fault(THREE, OddRing((changed, changed))), "tie")
        for thing in (None, 0, tie_row(tie), [], SAME, Tie(None, (2, 0), "unlike", 1, 2, 4),
                      Tie((1, 0), 2, "unlike", 1, 2, 4), Tie((1, 0), (2, 0), ["unlike"], 1, 2, 4),
                      Tie((1, 0), (2, 0), "unlike", [1], 2, 4), Tie((1, 0), (2, 0), "unlike", 1, 2, None)):
            self.assertEqual(ring_fault(THREE, OddRing((thing, thing))), "tie")
            self.assertEqual(ring_fault(THREE, OddRing((tie, tie, thing))), "tie")
        same = Tie([1, 0], [2, 0], "unlike", 1, 2, 4)
        self.assertEqual(ring_fault(THREE, OddRing((tie, same))), "even")


class CountedTest(unittest.TestCase):
    def test_small_worlds(self):
        for world in (ONE, CHAIN, ROOTS, EXAMPLE, THREE, BOTH_SENSES) + tuple(small_worlds(22, 120, 4)):
            due = brute_layings(world)
            self.assertEqual(count_layings(world), len(due))
            found = list(all_layings(world))
            self.assertEqual([laying.places for laying in found], due)
            for laying in found:
                self.assertEqual(laying.fields, world.all_fields)

    def test_worlds_of_more_fields(self):
        listed = 0
        for world in (DIAMOND,) + tuple(random_worlds(23, 200, 9, 3)):
            count = count_layings(world)
            self.assertEqual(count == 0, isinstance(laid_world(world), OddRing))
            if count <= 2000:
                places = [laying.places for laying in all_layings(world)]
                self.assertEqual(len(places), count)
                self.assertEqual(places, sorted(set(places)))
                self.assertTrue(all(is_close(world, row) for row in places))
                listed += 1
        self.assertGreater(listed, 60)

    def test_by_hand(self):
        self.assertEqual(count_layings(ONE), 1)
        self.assertEqual([laying.places for laying in all_layings(ONE)], [()])
        self.assertEqual(count_layings(plain_world([()], [3])), 24)
        self.assertEqual(count_layings(DIAMOND), 2 * 2 * 1 * 2 * 2)
        self.assertEqual(count_layings(plain_world([(), (), (0, 1)], [3, 3, 3])), 2 * 6 * 6 * 24)
        self.assertEqual([laying.places for laying in all_layings(plain_world([()], [2]))], [
            (-2, -1), (-1, -2), (-1, 1), (1, -1), (1, 2), (2, 1),
        ])
        for world in (THREE, FIVE, BOTH_SENSES):
            self.assertEqual(count_layings(world), 0)
            self.assertEqual(list(all_layings(world)), [])

    def test_too_many_to_list(self):
        apart = plain_world([()] * 12, [3] * 12)
        self.assertEqual(count_layings(apart), 24 ** 12)
        first = [laying.places for laying in itertools.islice(all_layings(apart), 3)]
        self.assertEqual(first[0], (-3, -2, -1) * 12)
        self.assertEqual(first[1], (-3, -2, -1) * 11 + (-3, -1, -2))
        self.assertEqual(first[2], (-3, -2, -1) * 11 + (-2, -3, -1))
        rows = [laying.places for laying in itertools.islice(all_layings(WIDE), 500)]
        self.assertGreater(count_layings(WIDE), 10 ** 12)
        self.assertEqual(rows, sorted(set(rows)))
        self.assertTrue(all(is_close(WIDE, row) for row in rows))

    def test_one_by_one(self):
        layings = all_layings(DIAMOND)
        self.assertIs(iter(layings), layings)
        self.assertEqual(next(layings).places, min(laying.places for laying in all_layings(DIAMOND)))

    def test_mirrored_layings_are_listed_too(self):
        places = {laying.places for laying in all_layings(DIAMOND)}
        self.assertEqual({mirrored_laying(DIAMOND, laying).places for laying in all_layings(DIAMOND)}, places)


if __name__ == "__main__":
    unittest.main()

"""[2.1] to [2.4], [2.15]: ties, bound classes, pieces."""

import itertools
import unittest

from headamid.errors import NoClass
from headamid.ties import Tie, all_ties, alone_fields, base_ties, bound_classes, pieces_of
from tests.samples import (
    BOTH_SENSES, CHAIN, DIAMOND, EXAMPLE, NAMED, ONE, ROOTS, THREE, TWELVE, WITHIN, plain_world, random_worlds, tie_row,
)

WORLDS = NAMED + tuple(random_worlds(6, 60, 10, 3))


def field_set(world, c):
    """The fields of a class as a set."""
    return {field for field in world.all_fields if field[0] == c or field[0] in world.elders[c]}


def made_ties(world, a, b):
    """The ties (first, second, sense) that two classes make, as a set."""
    mine = field_set(world, a) - field_set(world, b)
    others = field_set(world, b) - field_set(world, a)
    if not mine or not others:
        return set()
    alike = {(f, g, "alike") for lot in (mine, others) for f in lot for g in lot if f < g}
    return alike | {(min(f, g), max(f, g), "unlike") for f in mine for g in others}


def due_ties(world):
    """The rows of all ties, as [2.2] tells them."""
    found = {}
    many = len(world)
    for a in range(many):
        for b in range(a + 1, many):
            heirs = [h for h in range(many) if {a, b} <= set(world.elders[h])]
            for key in made_ties(world, a, b) if heirs else ():
                found.setdefault(key, key + (a, b, heirs[0]))
    return tuple(found[key] for key in sorted(found))


def due_base_ties(world):
    """The rows of all base ties, as [2.3] tells them."""
    found = {}
    for heir in range(len(world)):
        for a in sorted(world.bases[heir]):
            for b in sorted(world.bases[heir]):
                for key in made_ties(world, a, b) if a < b else ():
                    found.setdefault(key, key + (a, b, heir))
    return tuple(found[key] for key in sorted(found))


def due_pieces(world):
    """The pieces, grown field by field."""
    pieces = []
    left = set(world.all_fields)
    while left:
        piece = {min(left)}
        while True:
            more = set()
            for first, second, _, _, _, _ in due_ties(world):
                if (first in piece) != (second in piece):
                    more |= {first, second}
            if not more:
                break
            piece |= more
        pieces.append(tuple(sorted(piece)))
        left -= piece
    return tuple(pieces)


class AloneTest(unittest.TestCase):
    def test_all_couples(self):
        for world in WORLDS:
            for a in range(len(world)):
                for b in range(len(world)):
                    due = tuple(sorted(field_set(world, a) - field_set(world, b)))
                    self.assertEqual(alone_fields(world, a, b), due)

    def test_by_hand(self):
        self.assertEqual(alone_fields(DIAMOND, 2, 1), ((2, 0), (2, 1)))
        self.assertEqual(alone_fields(DIAMOND, 0, 3), ())
        self.assertEqual(alone_fields(DIAMOND, 3, 1), ((2, 0), (2, 1), (3, 0)))
        self.assertEqual(alone_fields(WITHIN, 2, 1), ())
        self.assertEqual(alone_fields(WITHIN, 1, 2), ((1, 0),))

    def test_refused(self):
        for a, b, told in ((True, 9, True), (9, True, 9), (0, 1.0, 1.0), (0, -1, -1), (4, 4, 4), (None, 0, None)):
            with self.assertRaises(NoClass) as caught:
                alone_fields(DIAMOND, a, b)
            self.assertIs(caught.exception.cls, told)


class TiesTest(unittest.TestCase):
    def test_all_ties(self):
        for world in WORLDS:
            ties = all_ties(world)
            self.assertIs(type(ties), tuple)
            self.assertEqual(tuple(tie_row(tie) for tie in ties), due_ties(world))
            for tie in ties:
                self.assertIs(type(tie), Tie)
                self.assertEqual(list(vars(tie)), ["first", "second", "sense", "a", "b", "heir"])

    def test_base_ties(self):
        for world in WORLDS:
            ties = base_ties(world)
            self.assertIs(type(ties), tuple)
            self.assertEqual(tuple(tie_row(tie) for tie in ties), due_base_ties(world))

    def test_worlds_without_ties(self):
        for world in (ONE, ROOTS, CHAIN, TWELVE):
            self.assertEqual(all_ties(world), ())
            self.assertEqual(base_ties(world), ())

    def test_diamond(self):
        rows = (
            ((1, 0), (2, 0), "unlike", 1, 2, 3), ((1, 0), (2, 1), "unlike", 1, 2, 3),
            ((2, 0), (2, 1), "alike", 1, 2, 3),
        )
        self.assertEqual(tuple(tie_row(tie) for tie in all_ties(DIAMOND)), rows)
        self.assertEqual(tuple(tie_row(tie) for tie in base_ties(DIAMOND)), rows)

    def test_three_joined_two_by_two(self):
        self.assertEqual([tie_row(tie) for tie in all_ties(THREE)], [
            ((1, 0), (2, 0), "unlike", 1, 2, 4), ((1, 0), (3, 0), "unlike", 1, 3, 6),
            ((2, 0), (3, 0), "unlike", 2, 3, 5),
        ])

    def test_fields_within_make_no_ties(self):
        self.assertEqual(all_ties(WITHIN), ())
        self.assertEqual(base_ties(WITHIN), ())
        both_the_same = plain_world([(), (0,), (0,), (1, 2)], [1, 0, 0, 2])
        self.assertEqual(all_ties(both_the_same), ())
        one_more = plain_world([(), (0,), (0,), (1, 2)], [1, 1, 1, 0])
        self.assertEqual([tie_row(tie) for tie in all_ties(one_more)], [((1, 0), (2, 0), "unlike", 1, 2, 3)])

    def test_two_fields_tied_in_both_senses(self):
        ties = [tie_row(tie) for tie in all_ties(BOTH_SENSES)]
        self.assertEqual([row for row in ties if row[:2] == ((0, 0), (1, 0))], [
            ((0, 0), (1, 0), "alike", 4, 5, 7), ((0, 0), (1, 0), "unlike", 0, 1, 4),
        ])

    def test_base_ties_may_be_told_otherwise(self):
        # The heir 4 has the bases 2 and 3, whose elders 0 and 1 make the tie of all_ties.
        world = plain_world([(), (), (0,), (1,), (3, 2)], [1, 1, 0, 0, 0])
        self.assertEqual([tie_row(tie) for tie in all_ties(world)], [((0, 0), (1, 0), "unlike", 0, 1, 4)])
        self.assertEqual([tie_row(tie) for tie in base_ties(world)], [((0, 0), (1, 0), "unlike", 2, 3, 4)])

    def test_keeping_base_ties_is_enough(self):
        for world in random_worlds(7, 40, 7, 2):
            fields = world.all_fields
            if len(fields) > 7:
                continue
            for sides in itertools.product((0, 1), repeat=len(fields)):
                side = dict(zip(fields, sides))
                keeps = [all((side[f] == side[g]) == (sense == "alike") for f, g, sense, _, _, _ in map(tie_row, ties))
                         for ties in (all_ties(world), base_ties(world))]
                self.assertEqual(keeps[0], keeps[1])


class PiecesTest(unittest.TestCase):
    def test_bound_classes(self):
        for world in WORLDS:
            tied = {field for row in due_ties(world) for field in row[:2]}
            self.assertEqual(bound_classes(world), tuple(sorted({field[0] for field in tied})))
            for c in bound_classes(world):
                for i in range(world.owns[c]):
                    self.assertIn((c, i), tied)
                    for k in range(i):
                        self.assertIn(((c, k), (c, i), "alike"), [row[:3] for row in due_ties(world)])

    def test_pieces(self):
        for world in WORLDS:
            self.assertEqual(pieces_of(world), due_pieces(world))

    def test_by_hand(self):
        self.assertEqual(bound_classes(DIAMOND), (1, 2))
        self.assertEqual(pieces_of(DIAMOND), (((0, 0),), ((1, 0), (2, 0), (2, 1)), ((3, 0),)))
        self.assertEqual(bound_classes(EXAMPLE), (1, 2, 3))
        self.assertEqual(pieces_of(EXAMPLE), (((0, 0),), ((1, 0), (2, 0), (3, 0))))
        self.assertEqual(pieces_of(ROOTS), (((0, 0),), ((1, 0),), ((1, 1),)))
        self.assertEqual((bound_classes(ONE), pieces_of(ONE)), ((), ()))
        two = plain_world([(), (), (), (), (0, 3), (1, 2)], [1, 1, 1, 1, 0, 0])
        self.assertEqual(pieces_of(two), (((0, 0), (3, 0)), ((1, 0), (2, 0))))
        late = plain_world([(), (), (), (), (2, 3), (0, 1), (1, 3)], [1, 1, 1, 1, 0, 0, 0])
        self.assertEqual(pieces_of(late), (((0, 0), (1, 0), (2, 0), (3, 0)),))


if __name__ == "__main__":
    unittest.main()

"""[4.7] to [4.9]: rows of classes, stretches, bars, gaps, stars."""

import itertools
import random
import unittest

from headamid.errors import BadLot, BadOrder, BadWorld, NoClass, NoGap, NoKind, NotJoined, NotStretch, TooMany
from headamid.kinds import Kinds, kept_fault
from headamid.stretches import (
    Bars, Gap, StretchRow, all_rows, is_barred, join_pair, lot_of, row_fault, star_world, stretch_row,
)
from headamid.worlds import World
from tests.samples import (
    DIAMOND, NO_SEQUENCES, ONE, ROOTS, SAME, TWELVE, caught, kept_world, plain_world, random_worlds, told,
)
from tests.test_kinds import ALL_KINDS

SMALL = random_worlds(401, 120, 5, 1)
FIVE = plain_world([(), (), (), (0, 1), (1, 2)], [0] * 5)
STAR = plain_world([(), (), (), (), (0, 1), (0, 2), (0, 3)], [0] * 7)


def lot(world, c):
    return {c, *world.heirs[c]}


def due_gap(world, row):
    """The first class whose lot is no stretch, and the first class between, or None."""
    for c in range(len(world)):
        places = [row.index(k) for k in lot(world, c)]
        for place in range(min(places), max(places)):
            if row[place] not in lot(world, c):
                return c, row[place]
    return None


def due_rows(world, classes=None):
    """All rows in which the lots of these classes are stretches."""
    found = []
    for row in itertools.permutations(range(len(world))):
        for c in range(len(world)) if classes is None else classes:
            places = [row.index(k) for k in lot(world, c)]
            if max(places) - min(places) >= len(places):
                break
        else:
            found.append(row)
    return found


class RowTest(unittest.TestCase):
    def test_lots(self):
        for world in SMALL:
            for c in range(len(world)):
                self.assertEqual(lot_of(world, c), tuple(sorted(lot(world, c))))
        for thing in (4, -1, True, False, 0.0, None, "0", (0,)):
            self.assertEqual(caught(NoClass, lot_of, DIAMOND, thing), {"cls": thing})

    def test_first_gap_of_every_order(self):
        gaps = 0
        for world in SMALL[:50] + [DIAMOND, ROOTS, ONE, FIVE]:
            for row in itertools.permutations(range(len(world))):
                due = due_gap(world, row)
                gap = row_fault(world, list(row))
                if due is None:
                    self.assertIsNone(gap)
                    continue
                gaps += 1
                self.assertIs(type(gap), Gap)
                self.assertEqual(list(told(gap).items()), list(zip(("cls", "between"), due)))
                self.assertEqual(caught(NotStretch, StretchRow, world, row), told(gap))
        self.assertGreater(gaps, 500)

    def test_no_order(self):
        for function in (row_fault, StretchRow):
            for thing in NO_SEQUENCES + ((), (0, 1), [0, 1, 2, 3], (0, 1, 1), (0, True, 2), (0, 1.0, 2), (0, 1, 3),
                                         (0, 1, None), (0, SAME, 2), ([0], 1, 2)):
                self.assertEqual(caught(BadOrder, function, ROOTS, thing), {})

    def test_gap_by_hand(self):
        self.assertEqual(told(row_fault(DIAMOND, (1, 0, 2, 3))), {"cls": 1, "between": 0})
        self.assertEqual(told(row_fault(DIAMOND, (3, 0, 1, 2))), {"cls": 1, "between": 0})
        self.assertEqual(told(row_fault(DIAMOND, (0, 2, 1, 3))), {"cls": 2, "between": 1})
        self.assertIsNone(row_fault(DIAMOND, (0, 1, 3, 2)))
        world = plain_world([(), (), (), (0,)], [0] * 4)
        self.assertEqual(told(row_fault(world, (3, 2, 1, 0))), {"cls": 0, "between": 2})

    def test_all_rows(self):
        for world in SMALL + random_worlds(402, 20, 6, 0):
            rows = list(all_rows(world))
            self.assertEqual(rows, due_rows(world))
            self.assertTrue(all(type(row) is tuple for row in rows))

    def test_seven_classes_and_eight(self):
        roots = World([((), 0, ())] * 7)
        self.assertEqual(list(all_rows(roots)), list(itertools.permutations(range(7))))
        self.assertEqual(list(all_rows(STAR)), [])
        self.assertEqual(stretch_row(roots), tuple(range(7)))
        rows = all_rows(roots)
        self.assertIs(iter(rows), rows)
        self.assertEqual(next(rows), (0, 1, 2, 3, 4, 5, 6))
        for world in (World([((), 0, ())] * 8), TWELVE):
            many = {"count": len(world)}
            self.assertEqual(caught(TooMany, lambda: list(all_rows(world))), many)
            self.assertEqual(caught(TooMany, stretch_row, world), many)
            self.assertEqual(caught(TooMany, is_barred, world, (0,)), many)
            self.assertEqual(caught(BadLot, is_barred, world, (0, 99)), {"index": 1})
            self.assertIsNone(row_fault(world, list(range(len(world)))))


class BarsTest(unittest.TestCase):
    def due_bars(self, world):
        kept = list(range(len(world)))
        for c in range(len(world)):
            rest = [k for k in kept if k != c]
            if not due_rows(world, rest):
                kept = rest
        return tuple(kept)

    def test_first_row_or_bars(self):
        rng = random.Random(403)
        bars = 0
        worlds = [World([(rng.sample(range(c), 2 if c > 2 else 0), 0, ()) for c in range(6)]) for _ in range(60)]
        for world in SMALL + worlds:
            rows = due_rows(world)
            found = stretch_row(world)
            if rows:
                self.assertEqual(found, rows[0])
                continue
            bars += 1
            self.assertIs(type(found), Bars)
            self.assertEqual(told(found), {"classes": self.due_bars(world)})
        self.assertGreater(bars, 8)

    def test_barred_lots(self):
        rng = random.Random(404)
        seen = {True: 0, False: 0}
        for _ in range(150):
            many = rng.choice((1, 3, 5, 6, 6, 6))
            world = World([(rng.sample(range(c), min(c, 2) if c > 2 else 0), 0, ()) for c in range(many)])
            for classes in ([], range(len(world)), [rng.randrange(len(world)) for _ in range(5)]):
                found = is_barred(world, list(classes))
                self.assertIs(found, not due_rows(world, classes))
                self.assertIs(is_barred(world, tuple(classes) * 2), found)
                self.assertIs(is_barred(world, list(classes)[::-1]), found)
                seen[found] += 1
        self.assertGreater(min(seen.values()), 20)

    def test_by_hand(self):
        world = FIVE.with_class((0, 2), 0, ())
        self.assertEqual(told(stretch_row(world)), {"classes": (0, 1, 2)})
        self.assertIs(is_barred(world, (0, 1, 2)), True)
        self.assertIs(is_barred(world, [2, 0, 2, 1, 0]), True)
        self.assertIs(is_barred(world, (0, 1, 3, 4, 5)), False)
        self.assertEqual(told(stretch_row(STAR)), {"classes": (0, 1, 2, 3)})

    def test_refused(self):
        for thing in NO_SEQUENCES:
            self.assertEqual(caught(BadLot, is_barred, DIAMOND, thing), {"index": 0})
        for index in range(3):
            for thing in (4, -1, True, False, 1.0, None, "0", (0,), [], {}, SAME):
                self.assertEqual(caught(BadLot, is_barred, DIAMOND, [0, 0, 3][:index] + [thing, 99]), {"index": index})


class StretchRowTest(unittest.TestCase):
    def test_spans_and_tests(self):
        for world in SMALL:
            for row in due_rows(world)[:6]:
                stretch = StretchRow(world, list(row))
                self.assertEqual((stretch.world, stretch.row, type(stretch.row)), (world, row, tuple))
                for c in range(len(world)):
                    places = [row.index(k) for k in lot(world, c)]
                    self.assertEqual(stretch.spans[c], (min(places), max(places)))
                    for target in range(len(world)):
                        self.assertIs(stretch.span_test(c, target), c in lot(world, target))
                self.assertEqual([type(thing) for thing in (stretch.spans, *stretch.spans)], [tuple] * (len(world) + 1))

    def test_gaps_and_classes_put_in(self):
        rng = random.Random(405)
        full = empty = 0
        for world in SMALL:
            for row in due_rows(world)[:4]:
                stretch = StretchRow(world, row)
                bases = rng.sample(range(len(world)), rng.randint(0, len(world)))
                longer = world.with_class(bases, 1, (2,))
                news = [row[:gap] + (len(world),) + row[gap:] for gap in range(len(world) + 1)]
                due = tuple(gap for gap, new in enumerate(news) if due_gap(longer, new) is None)
                self.assertEqual(stretch.free_gaps(bases), due)
                full, empty = full + (len(due) > 0), empty + (len(due) == 0)
                for gap in range(len(news)):
                    self.check_put(stretch, longer, (bases, 1, [2], gap), news[gap] if gap in due else None)
                for base in bases:
                    if set(bases) <= {base, *world.elders[base]}:
                        self.assertIn(row.index(base) + 1, due)
        self.assertGreater(min(full, empty), 20)

    def check_put(self, stretch, longer, things, row):
        before = (stretch.world, stretch.row, stretch.spans)
        if row is None:
            self.assertEqual(caught(NoGap, stretch.put_class, *things), {"gap": things[3]})
        else:
            found = stretch.put_class(*things)
            self.assertIs(type(found), StretchRow)
            self.assertEqual((found.world, found.row), (longer, row))
            self.assertEqual(found.spans, StretchRow(longer, row).spans)
        self.assertEqual((stretch.world, stretch.row, stretch.spans), before)

    def test_by_hand(self):
        stretch = StretchRow(FIVE, (0, 3, 1, 4, 2))
        self.assertEqual(stretch.spans, ((0, 1), (1, 3), (3, 4), (1, 1), (3, 3)))
        self.assertEqual(stretch.free_gaps((0, 2)), ())
        self.assertEqual(stretch.free_gaps([]), (0, 5))
        self.assertEqual(stretch.free_gaps([1]), (2, 3))
        self.assertEqual(stretch.free_gaps([1, 0]), (1, 2))
        self.assertEqual(stretch.put_class([1], 3, (), 2).row, (0, 3, 5, 1, 4, 2))
        self.assertEqual(StretchRow(ONE, (0,)).free_gaps((0,)), (0, 1))

    def test_refused_in_order(self):
        stretch = StretchRow(FIVE, (0, 3, 1, 4, 2))
        for thing in (5, -1, True, False, 0.0, None, "0", (0,)):
            self.assertEqual(caught(NoClass, stretch.span_test, thing, 99), {"cls": thing})
            self.assertEqual(caught(NoClass, stretch.span_test, 0, thing), {"cls": thing})
        for thing in NO_SEQUENCES + ((5,), (0, 0), (True,), (0, -1), (0.0,)):
            self.assertEqual(caught(BadWorld, stretch.free_gaps, thing), {"index": 5, "what": "base"})
            self.assertEqual(caught(BadWorld, stretch.put_class, thing, 9, 9, 9), {"index": 5, "what": "base"})
        self.assertEqual(caught(BadWorld, stretch.put_class, (0, 2), 9, 9, 9), {"index": 5, "what": "fields"})
        self.assertEqual(caught(BadWorld, stretch.put_class, (0, 2), 0, 9, 9), {"index": 5, "what": "method"})
        self.assertEqual(caught(NoGap, stretch.put_class, (0, 2), 0, (), 1), {"gap": 1})
        for thing in (1, 4, 6, -1, True, False, 0.0, 5.0, None, "0", (0,), SAME):
            self.assertIs(caught(NoGap, stretch.put_class, (), 0, (), thing)["gap"], thing)
        full = StretchRow(TWELVE, tuple(range(12)))
        self.assertEqual(caught(BadWorld, full.free_gaps, None), {"index": 0, "what": "many"})
        self.assertEqual(caught(BadWorld, full.put_class, None, 9, 9, 9), {"index": 0, "what": "many"})

    def test_later_changes_have_no_effect(self):
        row = [0, 3, 1, 4, 2]
        stretch = StretchRow(FIVE, row)
        row[0] = 9
        self.assertEqual(stretch.row, (0, 3, 1, 4, 2))


class StarTest(unittest.TestCase):
    def test_join_pair(self):
        for kinds in ALL_KINDS:
            self.assertEqual(join_pair(kinds), kinds.joined[0] if kinds.joined else None)

    def test_stars(self):
        stars = 0
        for kinds in ALL_KINDS[::3]:
            for one, other in itertools.product(range(kinds.many), repeat=2):
                if not kinds.are_joined(one, other):
                    self.assertEqual(caught(NotJoined, star_world, kinds, one, other), {"one": one, "other": other})
                    continue
                world, given = star_world(kinds, one, other)
                near, far = int(one not in kinds.bare), int(other not in kinds.bare)
                self.assertEqual(world, plain_world(STAR.bases, [near, far, far, far, 0, 0, 0]))
                self.assertEqual((given, type(given)), ((one, other, other, other, one, one, one), tuple))
                self.assertIsNone(kept_fault(world, kinds, given))
                stars += 1
        self.assertGreater(stars, 300)
        self.assertIs(type(stretch_row(star_world(Kinds(2, [(0, 1)], [0, 1]), 1, 0)[0])), Bars)

    def test_without_a_join_each_world_has_a_row(self):
        rng = random.Random(406)
        for kinds in ALL_KINDS:
            if kinds.joined == ():
                world, _ = kept_world(rng, kinds, 7, 1)
                self.assertIs(type(stretch_row(world)), tuple)

    def test_refused_in_order(self):
        kinds = Kinds(2, [])
        for thing in (2, -1, True, False, 0.0, None, "0", (0,)):
            self.assertEqual(caught(NoKind, star_world, kinds, thing, 99), {"kind": thing})
            self.assertEqual(caught(NoKind, star_world, kinds, 1, thing), {"kind": thing})
        self.assertEqual(caught(NotJoined, star_world, kinds, 1, 0), {"one": 1, "other": 0})
        self.assertEqual(caught(NotJoined, star_world, Kinds(2, [(0, 1)]), 1, 1), {"one": 1, "other": 1})


if __name__ == "__main__":
    unittest.main()

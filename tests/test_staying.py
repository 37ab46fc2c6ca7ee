"""[10.2], [10.3]: edits by which fields stay, or as few as can be are moved."""

import functools
import itertools
import random
import unittest

from headamid.errors import BadEdit, NoClass, NotClose, TooMany
from headamid.layings import Laying, close_fault
from headamid.rings import all_layings, count_layings, laid_world
from headamid.staying import Moved, free_sides, least_moved, stayed_laying
from headamid.worlds import World
from tests.samples import (
    DIAMOND, EXAMPLE, ONE, ROOTS, SAME, THREE, TWELVE, WIDE, brute_layings, caught, due_edited, plain_world,
    random_edit, random_places, random_worlds, ringed_worlds, small_worlds, told, upward,
)



def with_methods(world):
    return World([(bases, fields, (c % 4, 5)) for c, (bases, fields, _) in enumerate(world)])


SMALL = [ONE, DIAMOND, ROOTS, with_methods(DIAMOND), with_methods(EXAMPLE)] + small_worlds(2101, 60, 4) + [
    with_methods(world) for world in ringed_worlds(2108, 40, 6, 4)]


@functools.lru_cache(maxsize=None)
def close_rows(bases, owns):
    """The places of all close layings of a world, each world tried out once."""
    return brute_layings(plain_world(bases, owns))


def class_cells(world, places, c):
    place = dict(zip(world.all_fields, places))
    return [0] + [place[f] for f in place if f[0] in upward(world, c)]


def due_free(world, places, c):
    """The free sides of a class, judged by the fields of its heirs."""
    mine = class_cells(world, places, c)
    others = [cell for heir in world.heirs[c] for cell in class_cells(world, places, heir)]
    return tuple(side for side, is_free in (("up", max(others + [0]) <= max(mine)), ("down", min(others + [0]) >= min(mine)))
                 if is_free)


def close_layings(rng, world, most):
    """Some close layings of a world."""
    found = list(itertools.islice(all_layings(world), 200))
    return rng.sample(found, min(most, len(found)))


def stays(world, laying, later, places):
    """Whether each field that both worlds have keeps its place."""
    after = dict(zip(later.all_fields, places))
    return all(after.get(f, place) == place for f, place in zip(world.all_fields, laying.places))


def tried(seed):
    """Worlds with a close laying, an edit that is not refused, and the edited world; few fields in all."""
    rng = random.Random(seed)
    for world in SMALL:
        for laying in close_layings(rng, world, 5):
            for _ in range(8):
                edit = random_edit(rng, world)
                later = due_edited(world, edit)
                if not isinstance(later, str) and len(later.all_fields) < 5:
                    yield world, laying, edit, later


class FreeTest(unittest.TestCase):
    def test_every_class(self):
        rng = random.Random(2102)
        seen = {}
        for world in SMALL + random_worlds(2103, 100, 9, 2) + [EXAMPLE, TWELVE, WIDE]:
            rows = [random_places(rng, len(world.all_fields), far) for far in (1, 3, 9)]
            rows += [laying.places for laying in close_layings(rng, world, 3)]
            for places, c in itertools.product(rows, range(len(world))):
                found = free_sides(world, Laying(world, places), c)
                self.assertEqual((found, type(found)), (due_free(world, places, c), tuple))
                seen[found] = seen.get(found, 0) + 1
        self.assertEqual(len(seen), 4)
        self.assertGreater(min(seen.values()), 100)

    def test_a_field_more_for_every_free_side(self):
        for world in SMALL:
            for laying in close_layings(random.Random(2104), world, 4):
                for c in range(len(world)):
                    self.check_more_fields(world, laying, c)

    def check_more_fields(self, world, laying, c):
        """A field more can be laid exactly if a side is free, and then another one."""
        many = world.owns[c]
        for more in range(many + 1, 4):
            entry = (world.bases[c], more, ())
            longer = plain_world(world.bases, world.owns[:c] + (entry[1],) + world.owns[c + 1:])
            if len(longer.all_fields) < 5:
                due = any(stays(world, laying, longer, places) for places in close_rows(longer.bases, longer.owns))
                self.assertEqual(due, len(free_sides(world, laying, c)) > 0)

    def test_no_class(self):
        laying = laid_world(DIAMOND)
        for thing in (4, -1, True, False, 1.0, None, "0", (0,), SAME):
            self.assertIs(caught(NoClass, free_sides, DIAMOND, laying, thing)["cls"], thing)


class StayedTest(unittest.TestCase):
    def test_exactly_if_some_close_laying_moves_nothing(self):
        seen = {}
        for world, laying, edit, later in tried(2105):
            found = stayed_laying(world, laying, edit)
            staying = [places for places in close_rows(later.bases, later.owns) if stays(world, laying, later, places)]
            key = (edit[0], found is not None)
            seen[key] = seen.get(key, 0) + 1
            if found is None:
                self.assertEqual(staying, [])
            else:
                self.assertIn(found.places, staying)
                self.assertEqual((type(found), found.fields), (Laying, later.all_fields))
                self.check_new_places(world, laying, edit, found)
        due = [(word, True) for word in "field unfield method unmethod base unbase class unclass".split()]
        due += [(word, False) for word in "field unfield base unbase class".split()]
        self.assertEqual(sorted(seen), sorted(due))
        self.assertGreater(min(seen.values()), 4, seen)

    def check_new_places(self, world, laying, edit, found):
        if edit[0] == "field":
            c = edit[1]
            cells = class_cells(world, laying.places, c)
            up = "up" in due_free(world, laying.places, c)
            self.assertEqual(found.place_of((c, world.owns[c])), max(cells) + 1 if up else min(cells) - 1)
        if edit[0] == "class":
            elders = {k for base in edit[1] for k in upward(world, base)}
            high = max([0] + [place for f, place in zip(laying.fields, laying.places) if f[0] in elders])
            news = [found.place_of((len(world), i)) for i in range(edit[2])]
            self.assertEqual(news, [high + i + 1 for i in range(edit[2])])

    def test_a_last_field_that_goes(self):
        seen = {True: 0, False: 0}
        for world in SMALL:
            for laying in close_layings(random.Random(2106), world, 5):
                for c in [c for c in range(len(world)) if world.owns[c]]:
                    cell = laying.place_of((c, world.owns[c] - 1))
                    rows = [class_cells(world, laying.places, k) for k in (c, *world.heirs[c])]
                    due = all(cell in (min(row), max(row)) for row in rows)
                    self.assertEqual(stayed_laying(world, laying, ("unfield", c)) is not None, due)
                    seen[due] += 1
        self.assertGreater(min(seen.values()), 50)

    def test_by_hand(self):
        laying = Laying(EXAMPLE, (1, 2, -1, 2))
        for edit, places in ((("field", 1), (1, 2, 3, -1, 2)), (["field", 2], (1, 2, -1, -2, 2)), (("field", 0), None),
                             (("field", 4), (1, 2, -1, 2, 3)), (("unfield", 0), None), (("unfield", 2), (1, 2, 2)),
                             (["class", [3, 2], 2, [1]], (1, 2, -1, 2, 3, 4)), (("class", (1, 3), 0, ()), None),
                             (("class", (), 2, ()), (1, 2, -1, 2, 1, 2)), (("unclass",), (1, 2, -1, 2)),
                             (("method", 0, 0), (1, 2, -1, 2)), (("unbase", 4, 2), (1, 2, -1, 2)),
                             (("unbase", 2, 0), (1, 2, -1, 2)), (("unbase", 1, 0), None), (("base", 3, 1, 0), None)):
            found = stayed_laying(EXAMPLE, laying, edit)
            self.assertEqual(found and found.places, places, edit)

    def test_as_many_more_as_one_likes(self):
        world, laying = TWELVE, laid_world(TWELVE)
        for c in (11, 11):
            laying, world = stayed_laying(world, laying, ("field", c)), due_edited(world, ("field", c))
            self.assertIsNone(close_fault(world, laying))
        self.assertEqual(laying.places[-3:], (12, 13, 14))

    def test_refused_in_order(self):
        shared, hole = Laying(DIAMOND, (1, 2, 2, 3, 4)), Laying(DIAMOND, (1, 3, -1, -2, 4))
        for call in (stayed_laying, least_moved):
            for edit in (None, ("field", 9), ("field", 0), ()):
                self.assertEqual(list(caught(NotClose, call, DIAMOND, shared, edit).items()), [("cls", 3), ("cell", 2)])
                self.assertEqual(caught(NotClose, call, DIAMOND, hole, edit), {"cls": 1, "cell": 2})
            for edit, word in ((None, "form"), (("field", 9), "class"), (("field", True), "class"),
                               (("unbase", 0, 1), "base"), (("base", 3, 0, 9), "place")):
                self.assertEqual(caught(BadEdit, call, DIAMOND, laid_world(DIAMOND), edit), {"what": word})


class LeastTest(unittest.TestCase):
    def test_against_all_close_layings(self):
        seen = {None: 0, 0: 0, 1: 0, 2: 0}
        for world, laying, edit, later in tried(2107):
            rows = close_rows(later.bases, later.owns)
            place = dict(zip(world.all_fields, laying.places))
            costs = [sum(f in place and place[f] != at for f, at in zip(later.all_fields, row)) for row in rows]
            found = least_moved(world, laying, edit)
            seen[None if found is None else min(found.number, 2)] += 1
            if not rows:
                self.assertIsNone(found)
                continue
            self.assertEqual((type(found), list(told(found))), (Moved, ["number", "laying"]))
            self.assertEqual(found.number, min(costs))
            self.assertEqual((type(found.laying), found.laying.fields), (Laying, later.all_fields))
            self.assertEqual(found.laying.places, rows[costs.index(min(costs))])
            self.assertEqual(found.number == 0, stayed_laying(world, laying, edit) is not None)
        self.assertGreater(min(seen.values()), 3, seen)

    def test_none(self):
        world = THREE.without_last()
        self.assertIsNone(least_moved(world, laid_world(world), ("class", (3, 1), 0, ())))
        self.assertEqual(least_moved(world, laid_world(world), ("class", (3, 1), 0, [])), None)

    def test_how_many_layings(self):
        # No world has from 577 to 767 close layings: their number is a product of 2, 6 and 24.
        bound = [(), (), (0, 1), (), (), (), (), ()]
        for bases, owns, count in (([()] * 6, [3, 1, 1, 1, 1, 1], 768), ([()] * 2, [3, 3], 576), ([()] * 3, [3, 2, 2], 864),
                                   ([()] * 9, [1] * 9, 512), ([()] * 10, [1] * 10, 1024), ([()] * 3, [3, 2, 1], 288),
                                   (bound, [1, 3, 0, 0, 2, 2, 0, 0], 432), (bound, [1, 3, 0, 1, 2, 2, 0, 0], 864),
                                   (bound, [3, 3, 0, 1, 1, 1, 0, 0], 576), (bound, [3, 3, 0, 3, 1, 0, 0, 0], 3456),
                                   (bound, [3, 3, 0, 3, 3, 3, 3, 3], 72 * 24 ** 5)):
            world = plain_world(bases, owns)
            self.assertEqual(count_layings(world), count)
            laying = laid_world(world)
            for edit in (("method", 0, 0), ("class", (0,), 0, [1])):
                if count > 720:
                    self.assertEqual(caught(TooMany, least_moved, world, laying, edit), {"count": count})
                else:
                    found = least_moved(world, laying, edit)
                    self.assertEqual((found.number, found.laying.places), (0, laying.places))
            self.assertEqual(caught(BadEdit, least_moved, world, laying, ("field", 99)), {"what": "class"})

    def test_the_edited_world_counts(self):
        roots = plain_world([(), (), ()], [3, 2, 1])
        for edit, count in ((("field", 1), 24 * 24 * 2), (["field", 2], 24 * 6 * 6), (("class", (), 2, ()), 24 * 6 * 2 * 6)):
            self.assertEqual(caught(TooMany, least_moved, roots, laid_world(roots), edit), {"count": count})
        many = plain_world([(), ()], [3, 3]).with_class((), 1, ())
        self.assertEqual(count_layings(many), 1152)
        for edit in (("unclass",), ("unfield", 0)):
            self.assertEqual(least_moved(many, laid_world(many), edit).number, 0)

    def test_result_keeps_the_very_things(self):
        things = [1], [2]
        self.assertEqual([a is b for a, b in zip(told(Moved(*things)).values(), things)], [True, True])


if __name__ == "__main__":
    unittest.main()

"""[6.7] to [6.10] and the example of part 6: casts, clear worlds, steady ways, one part for ever."""

import itertools
import random
import unittest

from headamid.casts import (
    Moving, NoWay, Several, Unclear, cast_place, first_unclear, must_share, one_part, steady_way, ways_agree,
)
from headamid.errors import BadWay, NoClass, TooMany
from headamid.links import Links, flat_links, ways_between
from headamid.partobjects import copies_of, part_along, parts_of, shift_along, size_of
from headamid.worlds import World
from tests.samples import (
    CHAIN, DIAMOND, NO_SEQUENCES, ROOTS, SAME, TWELVE, caught, plain_world, random_worlds, small_worlds, told,
)
from tests.test_links import EVERY, drawn_links, due_cut, due_ways, world_links
from tests.test_partobjects import KNOT, all_links, samples


def due_cast(links, c, target):
    """The kind of answer, and the place or the two ways, by [6.7]."""
    ways = due_ways(links.world, c, target) if target in (c, *links.world.elders[c]) else []
    if not ways:
        return "none", ()
    others = [way for way in ways if due_cut(links, way) != due_cut(links, ways[0])]
    if others:
        return "unclear", (ways[0], others[0])
    return "place", part_along(links, ways[0]).place


def all_ways(world):
    return [way for c in range(len(world)) for target in range(len(world)) for way in due_ways(world, c, target)]


def heir_links(rng, links, c):
    """Links with one class more, an heir of c, whose other bases and shared links are drawn."""
    others = [k for k in range(len(links.world)) if k != c]
    bases = [c] + rng.sample(others, rng.randint(0, min(2, len(others))))
    rng.shuffle(bases)
    return links.with_class(bases, rng.randint(0, 2), [base for base in bases if rng.random() < 0.5])


class CastTest(unittest.TestCase):
    def test_all_couples_of_classes(self):
        seen = {"none": 0, "unclear": 0, "place": 0}
        for links in samples():
            for c, target in itertools.product(range(len(links.world)), repeat=2):
                word, due = due_cast(links, c, target)
                seen[word] += 1
                found = cast_place(links, c, target)
                if word == "none":
                    self.assertEqual((type(found), told(found)), (NoWay, {}))
                elif word == "unclear":
                    self.assertIs(type(found), Unclear)
                    self.assertEqual(list(told(found).items()), list(zip(("first", "second"), due)))
                    self.assertGreater(copies_of(links, c, target), 1)
                else:
                    self.assertEqual((found, type(found)), (due, int))
                    self.assertEqual(copies_of(links, c, target), 1)
        self.assertGreater(min(seen.values()), 100)

    def test_by_hand(self):
        links = Links(KNOT, [(4, 3), (5, 4)])
        self.assertEqual(told(cast_place(links, 5, 0)), {"first": (5, 4, 3, 1, 0), "second": (5, 4, 2, 0)})
        self.assertEqual(cast_place(links, 5, 5), [part.place for part in parts_of(links, 5) if part.way == (5,)][0])
        self.assertIs(type(cast_place(links, 0, 5)), NoWay)
        self.assertEqual(vars(NoWay()), {})

    def test_refused_in_order(self):
        for thing in (4, -1, True, False, 0.0, None, "0", (0,), SAME):
            self.assertIs(caught(NoClass, cast_place, Links(DIAMOND), thing, 99)["cls"], thing)
            self.assertIs(caught(NoClass, cast_place, Links(DIAMOND), 0, thing)["cls"], thing)
            self.assertIs(caught(NoClass, one_part, Links(DIAMOND), thing)["cls"], thing)


class AgreeTest(unittest.TestCase):
    def test_all_couples_of_ways(self):
        seen = {True: 0, False: 0}
        for links in samples()[::3]:
            for first, second in itertools.product(all_ways(links.world), repeat=2):
                if first[0] == second[0]:
                    due = told(part_along(links, first)) == told(part_along(links, second))
                    self.assertIs(ways_agree(links, list(first), second), due)
                    seen[due] += 1
        self.assertGreater(min(seen.values()), 1000)

    def test_with_an_heir_ahead(self):
        rng = random.Random(821)
        for links in samples():
            c = rng.randrange(len(links.world))
            longer = heir_links(rng, links, c)
            longest = heir_links(rng, longer, len(links.world))
            ways = [way for way in all_ways(links.world) if way[0] == c]
            for first, second in itertools.product(ways, repeat=2):
                due = ways_agree(links, first, second)
                heir = len(links.world)
                self.assertIs(ways_agree(longer, (heir,) + first, (heir,) + second), due)
                self.assertIs(ways_agree(longest, (heir + 1, heir) + first, (heir + 1, heir) + second), due)

    def test_one_more_shared_link_keeps_what_agreed(self):
        rng = random.Random(822)
        for links in samples():
            row = world_links(links.world)
            if not row:
                continue
            more = links.with_shared(*rng.choice(row))
            for first, second in itertools.product(all_ways(links.world)[::2], repeat=2):
                if first[0] == second[0] and ways_agree(links, first, second):
                    self.assertIs(ways_agree(more, first, second), True)
            for c in range(len(links.world)):
                self.assertLessEqual(len(parts_of(more, c)), len(parts_of(links, c)))

    def test_by_hand(self):
        links = Links(DIAMOND, [(1, 0), (2, 0)])
        self.assertIs(ways_agree(links, (3, 1, 0), (3, 2, 0)), True)
        self.assertIs(ways_agree(links, (3, 1), (3, 2)), False)
        self.assertIs(ways_agree(links, (3, 1, 0), (3, 1)), False)
        self.assertIs(ways_agree(links.with_shared(3, 1), (3, 1), (3, 1)), True)
        self.assertIs(ways_agree(Links(DIAMOND, [(1, 0)]), (3, 1, 0), (3, 2, 0)), False)

    def test_refused_in_order(self):
        links = Links(CHAIN)
        for thing in NO_SEQUENCES + ((), (3,), (True,)):
            self.assertEqual(caught(BadWay, ways_agree, links, thing, (2, 0)), {"index": 0})
            self.assertEqual(caught(BadWay, ways_agree, links, (2, 1), thing), {"index": 0})
        self.assertEqual(caught(BadWay, ways_agree, links, (2, 1, 1), (9,)), {"index": 2})
        self.assertEqual(caught(BadWay, ways_agree, links, (2, 1), (1, 2)), {"index": 1})
        self.assertEqual(caught(BadWay, ways_agree, links, (2, 1, 0), (1, 0)), {"index": 0})


class ClearTest(unittest.TestCase):
    def test_first_unclear(self):
        seen = {True: 0, False: 0}
        for links in samples():
            many = len(links.world)
            due = [due_cast(links, c, target)[1] for c, target in itertools.product(range(many), repeat=2)
                   if due_cast(links, c, target)[0] == "unclear"]
            found = first_unclear(links)
            seen[bool(due)] += 1
            if due:
                self.assertIs(type(found), Unclear)
                self.assertEqual((found.first, found.second), due[0])
            else:
                self.assertIsNone(found)
        self.assertGreater(min(seen.values()), 20)

    def test_must_share_against_all_sets_of_shared_links(self):
        worlds = [world for world in [DIAMOND, CHAIN, ROOTS, KNOT] + small_worlds(823, 150, 6)
                  if len(world_links(world)) < 9]
        musts = 0
        for world in worlds:
            must = must_share(world)
            self.assertEqual((must, type(must)), (tuple(sorted(set(must))), tuple))
            musts += len(must) > 0
            for links in all_links(world):
                self.assertEqual(first_unclear(links) is None, set(must) <= set(links.shared))
        self.assertGreater(musts, 10)

    def test_must_share_by_its_rule(self):
        for world in random_worlds(824, 120, 9, 1):
            due = []
            for x, t in world_links(world):
                for y in range(len(world)):
                    line = y in world.elders[x] or x in world.elders[y] or set(world.heirs[x]) & set(world.heirs[y])
                    if y != x and t in world.bases[y] and line:
                        due.append((x, t))
            self.assertEqual(must_share(world), tuple(sorted(set(due))))

    def test_by_hand(self):
        self.assertEqual(must_share(plain_world([(), (0,), (1, 0)], [0] * 3)), ((1, 0), (2, 0)))
        self.assertEqual(must_share(CHAIN), ())
        self.assertEqual(must_share(plain_world([(), (0,), (0,)], [0] * 3)), ())
        self.assertEqual(len(must_share(EVERY)), 12 * 11 // 2 - 1)

    def test_twelve_classes(self):
        found = first_unclear(Links(EVERY))
        self.assertEqual(told(found), {"first": (2, 1, 0), "second": (2, 0)})
        self.assertIsNone(first_unclear(Links(EVERY, must_share(EVERY))))
        late = Links(EVERY, [link for link in must_share(EVERY) if link != (11, 0)])
        self.assertEqual(told(first_unclear(late)), {"first": tuple(range(11, -1, -1)), "second": (11, 0)})
        self.assertIs(type(cast_place(Links(EVERY), 11, 0)), Unclear)


class SteadyTest(unittest.TestCase):
    def test_ways_without_and_with_shared_links(self):
        rng = random.Random(825)
        seen = {True: 0, False: 0}
        for links in samples():
            ways = all_ways(links.world)
            for way in rng.sample(ways, min(12, len(ways))):
                steady = not any(couple in links.shared for couple in zip(way, way[1:]))
                seen[steady] += 1
                found = steady_way(links, list(way))
                if steady:
                    self.assertIsNone(found)
                    self.check_steady(rng, links, way)
                else:
                    self.check_moving(links, way, found)
        self.assertGreater(min(seen.values()), 100)

    def check_steady(self, rng, links, way):
        """The difference is the same in objects of heirs, along all ways that come through this one."""
        longer = heir_links(rng, heir_links(rng, links, way[0]), len(links.world))
        top = len(longer.world) - 1
        for ahead in ways_between(longer, top, way[0]):
            self.assertEqual(shift_along(longer, ahead + way[1:], len(ahead) - 1), shift_along(links, way, 0))

    def check_moving(self, links, way, found):
        heir = len(links.world)
        self.assertIs(type(found), Moving)
        self.assertEqual(list(told(found)), ["links", "first", "second"])
        self.assertEqual(found.links, Links(World(links.world.classes + (((way[0],), 1, ()),)), links.shared))
        self.assertEqual(found.first, shift_along(links, way, 0))
        self.assertEqual(found.second, shift_along(found.links, (heir,) + way, 1))
        self.assertEqual(found.second, found.first + 2)

    def test_refused_in_order(self):
        full = Links(TWELVE, [(1, 0)])
        for links in (full, Links(CHAIN)):
            for thing in NO_SEQUENCES + ((), (12,), (True,)):
                self.assertEqual(caught(BadWay, steady_way, links, thing), {"index": 0})
            self.assertEqual(caught(BadWay, steady_way, links, (2, 1, 1)), {"index": 2})
        self.assertEqual(caught(TooMany, steady_way, full, (2, 1, 0)), {"count": 13})
        self.assertIsNone(steady_way(full, (11, 10, 9)))
        self.assertIsNone(steady_way(full, (0,)))
        eleven = Links(TWELVE.without_last(), [(1, 0)])
        self.assertEqual(len(steady_way(eleven, (1, 0)).links.world), 12)

    def test_result(self):
        links = Links(CHAIN)
        for cls in (Moving, Several):
            self.assertIs(cls(links, 1, 2).links, links)


class OnePartTest(unittest.TestCase):
    def test_all_targets(self):
        rng = random.Random(826)
        seen = {True: 0, False: 0}
        for links in samples():
            for target in range(len(links.world)):
                doubled = [x for x, t in world_links(links.world) if t == target and (x, t) not in links.shared]
                found = one_part(links, target)
                seen[found is None] += 1
                if doubled:
                    self.check_several(links, doubled[0], target, found)
                else:
                    self.assertIsNone(found)
                    self.check_one(rng, links, target)
        self.assertGreater(min(seen.values()), 100)

    def check_several(self, links, x, target, found):
        heir = len(links.world)
        self.assertIs(type(found), Several)
        self.assertEqual(list(told(found)), ["links", "first", "second"])
        self.assertEqual(found.links, Links(World(links.world.classes + (((x, target), 0, ()),)),
                                            links.shared + ((heir, target),)))
        self.assertEqual((found.first, found.second), ((heir, x, target), (heir, target)))
        self.assertIs(ways_agree(found.links, found.first, found.second), False)
        self.assertGreater(copies_of(found.links, heir, target), 1)

    def check_one(self, rng, links, target):
        """Classes to come that share the target have one part of it."""
        for _ in range(3):
            many = len(links.world)
            if many < 12:
                bases = rng.sample(range(many), rng.randint(0, min(3, many)))
                shared = [base for base in bases if base == target or rng.random() < 0.4]
                links = links.with_class(bases, 1, shared)
        for c in range(len(links.world)):
            self.assertLessEqual(copies_of(links, c, target), 1)

    def test_by_hand(self):
        self.assertIsNone(one_part(Links(DIAMOND), 3))
        self.assertIsNone(one_part(Links(DIAMOND, [(1, 0), (2, 0)]), 0))
        found = one_part(Links(DIAMOND, [(1, 0)]), 0)
        self.assertEqual((found.first, found.second, found.links.shared), ((4, 2, 0), (4, 0), ((1, 0), (4, 0))))

    def test_twelve_classes(self):
        full = Links(TWELVE, [(1, 0)])
        self.assertIsNone(one_part(full, 0))
        self.assertIsNone(one_part(full, 11))
        self.assertEqual(caught(TooMany, one_part, full, 1), {"count": 13})
        self.assertEqual(caught(NoClass, one_part, full, 12), {"cls": 12})


class ExampleTest(unittest.TestCase):
    world = plain_world([(), (0,), (0,), (1, 2)], [1, 1, 1, 0])

    def row(self, links):
        return [(part.way, part.place) for part in parts_of(links, 3)]

    def test_example(self):
        links = Links(self.world)
        self.assertEqual(self.row(links), [((3, 1, 0), 0), ((3, 1), 2), ((3, 2, 0), 4), ((3, 2), 6), ((3,), 8)])
        self.assertEqual(size_of(links, 3), 9)
        self.assertEqual(told(cast_place(links, 3, 0)), {"first": (3, 1, 0), "second": (3, 2, 0)})
        self.assertEqual(must_share(self.world), ((1, 0), (2, 0)))
        links = Links(self.world, must_share(self.world))
        self.assertEqual(self.row(links), [((3, 1), 0), ((3, 2), 2), ((3,), 4), ((0,), 5)])
        self.assertEqual((size_of(links, 3), cast_place(links, 3, 0)), (7, 5))
        moving = steady_way(links, (3, 1, 0))
        self.assertEqual((type(moving), moving.first, moving.second), (Moving, 1, 3))
        links = Links(self.world, [(1, 0)])
        self.assertEqual(copies_of(links, 3, 0), 2)
        self.assertEqual([part.way for part in parts_of(links, 3) if part.way[-1] == 0], [(3, 2, 0), (0,)])
        self.assertIsNone(first_unclear(flat_links(links)))


if __name__ == "__main__":
    unittest.main()

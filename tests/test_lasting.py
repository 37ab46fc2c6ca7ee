"""[3.8] to [3.11]: layings that last, and Declarings that go on from them."""

import itertools
import random
import unittest

from headamid.declaring import Declaring, kinds_for, may_meet
from headamid.errors import BadGiven, NoClass, NotKept, NotLasting, Unsafe
from headamid.kinds import KindRing, Kinds, kept_fault, kind_sides, side_rows
from headamid.lasting import Fleeting, count_lasting, go_on_from, lasting_fault, tie_to_come
from headamid.layings import Laying, close_fault
from headamid.rings import all_layings
from headamid.ties import all_ties
from headamid.worlds import World
from tests.samples import (
    NO_SEQUENCES, brute_layings, caught, is_close, kept_world, plain_world, told,
)
from tests.test_kinds import ALL_KINDS, free_joins, kind_pieces

TWO = Kinds(2, [(0, 1)])
RING = Kinds.in_ring(3)


def drawn(seed, many, most_in_all):
    """Kinds with a world that keeps them and their kinds, few fields in all."""
    rng = random.Random(seed)
    found = []
    while len(found) < many:
        kinds = rng.choice(ALL_KINDS)
        world, given = kept_world(rng, kinds, rng.randint(1, 5), 2)
        if len(world.all_fields) <= most_in_all:
            found.append((kinds, world, given))
    return found


def is_joined(kinds, one, other):
    return (min(one, other), max(one, other)) in kinds.joined


def due_tied(kinds, world, given, c):
    """What [3.8] tells of tie_to_come."""
    if not world.owns[c]:
        return False
    return any(k not in kinds.bare and is_joined(kinds, k, given[c])
               and all(k == given[e] or is_joined(kinds, k, given[e]) for e in world.elders[c])
               for k in range(kinds.many))


def worlds_to_come(kinds, world, given, c):
    """The worlds with a class with a field and a common heir of it and c more that keep the kinds."""
    many = len(world)
    for size in range(many + 1):
        for bases in itertools.combinations(range(many), size):
            for kind, heir_kind in itertools.product(range(kinds.many), repeat=2):
                longer = World(world.classes + ((bases, 1, ()), ((c, many), 0, ())))
                if kept_fault(longer, kinds, given + (kind, heir_kind)) is None:
                    yield longer


def own_ties(world, c):
    return [tie for tie in all_ties(world) if c in (tie.first[0], tie.second[0])]


def due_fault(kinds, world, given, places):
    """What [3.9] tells of lasting_fault, from the rows of kind sides and from counting cells."""
    rows = list(side_rows(kinds))
    if not rows:
        return ("ring", None, None)
    if not is_close(world, places):
        return ("close", None, None)
    place = dict(zip(world.all_fields, places))
    tied = [c for c in range(len(world)) if due_tied(kinds, world, given, c)]
    up = {c: {place[f] > 0 for f in place if f[0] == c} for c in tied}
    for second in tied:
        if len(up[second]) == 2:
            return ("split", second, second)
        for first in tied:
            piece = [piece for piece in kind_pieces(kinds) if given[second] in piece][0]
            if first < second and given[first] in piece:
                one_side = rows[0][given[first]] == rows[0][given[second]]
                if one_side != (up[first] == up[second]):
                    return ("sides", first, second)
    return None


def due_lasts(kinds, world, given, places):
    """Whether some row of kind sides has all own fields of each class with tie_to_come on the side of its kind."""
    place = dict(zip(world.all_fields, places))
    tied = [c for c in range(len(world)) if due_tied(kinds, world, given, c)]
    return is_close(world, places) and any(
        all((place[f] > 0) == (row[given[f[0]]] == "up") for f in place if f[0] in tied) for row in side_rows(kinds))


def begins_close(world, places):
    """Whether some close laying of the world begins with these places."""
    return any(laying.places[:len(places)] == tuple(places) for laying in all_layings(world))


class TieToComeTest(unittest.TestCase):
    def test_by_its_rule(self):
        seen = {True: 0, False: 0}
        for kinds, world, given in drawn(101, 400, 99):
            for c in range(len(world)):
                found = tie_to_come(world, kinds, list(given), c)
                self.assertIs(found, due_tied(kinds, world, given, c))
                seen[found] += 1
        self.assertGreater(min(seen.values()), 100)

    def test_by_worlds_to_come(self):
        seen = {True: 0, False: 0}
        for kinds, world, given in drawn(102, 60, 4):
            for c in range(len(world)):
                if world.owns[c]:
                    found = any(own_ties(longer, c) for longer in worlds_to_come(kinds, world, given, c))
                    self.assertEqual(tie_to_come(world, kinds, given, c), found)
                    seen[found] += 1
        self.assertGreater(min(seen.values()), 10)

    def test_without_it_no_drawn_world_to_come_ties_the_class(self):
        rng = random.Random(103)
        for kinds, world, given in drawn(104, 60, 4):
            free = [c for c in range(len(world)) if not tie_to_come(world, kinds, given, c)]
            entries, row = list(world.classes), list(given)
            for _ in range(60):
                kind = rng.randrange(kinds.many)
                own = 0 if kind in kinds.bare else 1
                bases = rng.sample(range(len(entries)), rng.randint(0, min(3, len(entries))))
                longer = entries + [(bases, own, ())]
                if len(longer) < 13 and kept_fault(World(longer), kinds, row + [kind]) is None:
                    entries, row = longer, row + [kind]
            for c in free:
                self.assertEqual(own_ties(World(entries), c), [])

    def test_by_hand(self):
        world = plain_world([(), (), (0, 1), (0,)], [1, 0, 1, 1])
        self.assertEqual([tie_to_come(world, TWO, (0, 1, 0, 1), c) for c in range(4)], [True, False, True, True])
        bare = Kinds(2, [(0, 1)], [1])
        self.assertEqual([tie_to_come(world, bare, (0, 1, 0, 0), c) for c in range(4)], [False] * 4)
        three = Kinds(3, [(0, 1), (1, 2)])
        chain = plain_world([(), (0,), (1,)], [1, 1, 1])
        self.assertEqual([tie_to_come(chain, three, (0, 1, 1), c) for c in range(3)], [True, True, True])
        self.assertIs(tie_to_come(plain_world([()], [1]), Kinds(1, []), (0,), 0), False)
        # Kind 2 is joined to kind 1 alone: a class of kind 1 with an elder of kind 0 may meet kind 0 alone.
        two = plain_world([(), (0,)], [1, 1])
        self.assertIs(tie_to_come(two, Kinds(3, [(0, 1), (1, 2)], [0]), (1, 1), 1), True)
        low = plain_world([(), (0,)], [0, 1])
        self.assertIs(tie_to_come(low, Kinds(3, [(0, 1), (1, 2)], [0]), (0, 1), 1), False)

    def test_refused_in_order(self):
        world = plain_world([(), (), (0, 1)], [1, 1, 0])
        for thing in NO_SEQUENCES:
            self.assertEqual(caught(BadGiven, tie_to_come, world, TWO, thing, 99), {"index": 0})
        self.assertEqual(caught(BadGiven, tie_to_come, world, TWO, (0, 1, 2), 99), {"index": 2})
        self.assertEqual(caught(NotKept, tie_to_come, world, TWO, (0, 0, 0), 99),
                         {"cls": 2, "first": 0, "second": 1, "what": "line"})
        for thing in (3, -1, True, False, 0.0, None, "0", (0,)):
            self.assertEqual(caught(NoClass, tie_to_come, world, TWO, (0, 1, 0), thing), {"cls": thing})


class LastingTest(unittest.TestCase):
    def test_all_close_layings_of_small_worlds(self):
        words = {None: 0, "ring": 0, "split": 0, "sides": 0}
        for kinds, world, given in drawn(105, 260, 4):
            lasting = 0
            for places in brute_layings(world):
                fault = lasting_fault(world, kinds, list(given), Laying(world, places))
                due = due_fault(kinds, world, given, places)
                words[due and due[0]] += 1
                self.assertEqual(fault is None, due_lasts(kinds, world, given, places))
                if due is None:
                    self.assertIsNone(fault)
                    lasting += 1
                    continue
                self.assertIs(type(fault), Fleeting)
                self.assertEqual(list(told(fault).items()), list(zip(("what", "first", "second"), due)))
            self.assertEqual(count_lasting(world, kinds, list(given)), lasting)
        self.assertGreater(min(words.values()), 50)

    def test_layings_that_are_not_close(self):
        rng = random.Random(106)
        seen = 0
        for kinds, world, given in drawn(107, 200, 6):
            places = [rng.choice((-2, -1, 1, 2, 3)) for _ in world.all_fields]
            fault = lasting_fault(world, kinds, given, Laying(world, places))
            due = due_fault(kinds, world, given, places)
            self.assertEqual(fault and (fault.what, fault.first, fault.second), due)
            seen += due is not None and due[0] == "close"
        self.assertGreater(seen, 40)

    def test_every_word_by_hand(self):
        def row(world, kinds, given, places):
            fault = lasting_fault(world, kinds, given, Laying(world, places))
            return fault and (fault.what, fault.first, fault.second)
        roots = plain_world([(), (), ()], [1, 2, 1])
        self.assertEqual(row(roots, RING, (0, 1, 2), (5, 5, 5, 5)), ("ring", None, None))
        self.assertEqual(row(roots, TWO, (0, 1, 0), (2, 1, -1, 1)), ("close", None, None))
        self.assertEqual(row(roots, TWO, (0, 1, 0), (1, 1, -1, -1)), ("split", 1, 1))
        self.assertEqual(row(roots, TWO, (0, 1, 0), (1, 1, 2, -1)), ("sides", 0, 1))
        self.assertEqual(row(roots, TWO, (0, 1, 0), (1, -1, -2, -1)), ("sides", 0, 2))
        self.assertEqual(row(roots, TWO, (0, 0, 1), (1, 1, 2, 1)), ("sides", 0, 2))
        self.assertIsNone(row(roots, TWO, (0, 1, 0), (1, -1, -2, 1)))
        self.assertIsNone(row(roots, TWO, (0, 1, 0), (-1, 2, 1, -1)))
        # Two pieces of kinds do not hinder one another; a kind without a join lets a class be split.
        four = Kinds(5, [(0, 1), (2, 3)])
        self.assertIsNone(row(roots, four, (0, 1, 2), (1, -1, -2, -1)))
        self.assertIsNone(row(roots, four, (0, 4, 1), (1, 1, -1, -1)))
        self.assertEqual(row(roots, four, (3, 4, 2), (1, 1, -1, 1)), ("sides", 0, 2))
        self.assertEqual(row(roots, four, (4, 2, 0), (1, 1, -1, 1)), ("split", 1, 1))

    def test_a_split_class_bars_a_world_to_come(self):
        splits = 0
        for kinds, world, given in drawn(108, 120, 3):
            for places in brute_layings(world):
                fault = lasting_fault(world, kinds, given, Laying(world, places))
                if fault is not None and fault.what == "split":
                    longer = [longer for longer in worlds_to_come(kinds, world, given, fault.first)
                              if own_ties(longer, fault.first)]
                    self.assertTrue(any(not begins_close(world, places) for world in longer))
                    splits += 1
        self.assertGreater(splits, 20)

    def test_sides_bar_a_world_to_come(self):
        roots = plain_world([(), ()], [1, 1])
        meeting = roots.with_class((0, 1), 0, ())
        through = World(roots.classes + (((), 1, ()), ((0, 2), 0, ()), ((1, 2), 0, ())))
        self.assertEqual(kept_fault(meeting, TWO, (0, 1, 0)), None)
        self.assertEqual(kept_fault(through, TWO, (0, 0, 1, 0, 0)), None)
        for places in itertools.product((1, -1), repeat=2):
            unlike = lasting_fault(roots, TWO, (0, 1), Laying(roots, places))
            self.assertEqual(unlike is None, begins_close(meeting, places))
            alike = lasting_fault(roots, TWO, (0, 0), Laying(roots, places))
            self.assertEqual(alike is None, begins_close(through, places))

    def test_refused_in_order(self):
        world = plain_world([(), (), (0, 1)], [1, 1, 0])
        laying = Laying(world, (1, 1))
        for kinds in (TWO, RING):
            for thing in NO_SEQUENCES + ((0, 1), (0, 1, 9), (0, 1, True)):
                index = 2 if isinstance(thing, tuple) and len(thing) == 3 else 0
                for call in (lasting_fault, go_on_from):
                    self.assertEqual(caught(BadGiven, call, world, kinds, thing, laying), {"index": index})
                self.assertEqual(caught(BadGiven, count_lasting, world, kinds, thing), {"index": index})
            breach = {"cls": 2, "first": 0, "second": 1, "what": "line"}
            for call in (lasting_fault, go_on_from):
                self.assertEqual(caught(NotKept, call, world, kinds, (1, 1, 0), laying), breach)
            self.assertEqual(caught(NotKept, count_lasting, world, kinds, (1, 1, 0)), breach)

    def test_result(self):
        things = ["close"], [0], [1]
        fault = Fleeting(*things)
        self.assertEqual([fault.what is things[0], fault.first is things[1], fault.second is things[2]], [True] * 3)


class CountTest(unittest.TestCase):
    def test_by_hand(self):
        roots = plain_world([(), (), ()], [1, 3, 2])
        self.assertEqual(count_lasting(roots, RING, (0, 1, 2)), 0)
        self.assertEqual(count_lasting(roots, TWO, (0, 1, 0)), 2 * 1 * 6 * 2)
        self.assertEqual(count_lasting(roots, Kinds(1, []), (0, 0, 0)), 2 * 24 * 6)
        self.assertEqual(count_lasting(roots, Kinds(4, [(0, 1), (2, 3)]), (0, 1, 2)), 4 * 1 * 6 * 2)
        self.assertEqual(count_lasting(roots, Kinds(3, [(0, 1)]), (0, 2, 2)), 2 * 1 * 24 * 6)
        self.assertEqual(count_lasting(plain_world([()], [0]), TWO, (0,)), 1)
        bare_ring = Kinds(3, [(0, 1), (1, 2), (0, 2)], [2])
        self.assertEqual(count_lasting(plain_world([(), ()], [2, 0]), bare_ring, (0, 2)), 2 * 2)

    def test_more_fields_by_listing_the_close_layings(self):
        for kinds, world, given in drawn(109, 60, 7):
            layings = [laying for laying in itertools.islice(all_layings(world), 5000)]
            if len(layings) < 5000:
                lasting = [laying for laying in layings if due_lasts(kinds, world, given, laying.places)]
                self.assertEqual(count_lasting(world, kinds, given), len(lasting))


class GoOnTest(unittest.TestCase):
    def due_sides(self, kinds, world, given, places):
        """The sides of kind_sides, turned in the pieces whose tied classes lie on the other side."""
        sides = list(kind_sides(kinds).sides)
        for piece in kind_pieces(kinds):
            for (c, _), place in zip(world.all_fields, places):
                if given[c] in piece and due_tied(kinds, world, given, c):
                    if (place > 0) != (kind_sides(kinds).sides[given[c]] == "up"):
                        for kind in piece:
                            sides[kind] = "down" if kind_sides(kinds).sides[kind] == "up" else "up"
        return tuple(sides)

    def test_all_close_layings_of_small_worlds(self):
        turned = raised = 0
        for kinds, world, given in drawn(110, 120, 3):
            for places in brute_layings(world):
                laying = Laying(world, places)
                due = due_fault(kinds, world, given, places)
                if due is None:
                    declaring = go_on_from(world, kinds, list(given), laying)
                    self.check_state(declaring, kinds, world, given, laying)
                    self.assertEqual(declaring.sides, self.due_sides(kinds, world, given, places))
                    turned += declaring.sides != kind_sides(kinds).sides
                elif due[0] == "ring":
                    self.assertEqual(caught(Unsafe, go_on_from, world, kinds, given, laying),
                                     {"ring": kind_sides(kinds).ring})
                else:
                    raised += 1
                    self.assertEqual(caught(NotLasting, go_on_from, world, kinds, given, laying),
                                     dict(zip(("what", "first", "second"), due)))
        self.assertGreater(min(turned, raised), 30)

    def check_state(self, declaring, kinds, world, given, laying):
        self.assertIs(type(declaring), Declaring)
        self.assertEqual((declaring.world_now, declaring.given_now, declaring.laying_now), (world, given, laying))
        self.assertEqual((declaring.places_now, declaring.kinds, len(declaring)), (laying.places, kinds, len(world)))

    def test_classes_declared_behind(self):
        rng = random.Random(111)
        longer = 0
        for kinds, world, given in drawn(112, 150, 5):
            if isinstance(kind_sides(kinds), KindRing):
                continue
            layings = [laying for laying in itertools.islice(all_layings(world), 300)
                       if due_lasts(kinds, world, given, laying.places)]
            laying = rng.choice(layings)
            declaring = go_on_from(world, kinds, given, laying)
            for _ in range(20):
                longer += self.declare_one(rng, declaring)
            self.assertEqual(declaring.places_now[:len(laying.places)], laying.places)
            self.assertEqual(declaring.world_now.classes[:len(world)], world.classes)
            self.assertEqual(declaring.given_now[:len(given)], given)
        self.assertGreater(longer, 300)

    def declare_one(self, rng, declaring):
        """Declares a drawn class if there is a kind for it, and checks its places."""
        c = len(declaring)
        if c == 12:
            return False
        bases, fields = rng.sample(range(c), rng.randint(0, min(c, 3))), rng.randint(0, 2)
        for kind in kinds_for(declaring, bases, fields)[-1:]:
            self.assertEqual(declaring.declare(bases, fields, kind=kind), c)
            world, laying = declaring.world_now, declaring.laying_now
            way = 1 if declaring.sides[kind] == "up" else -1
            reach = max([0] + [laying.place_of(f) * way for f in laying.fields if f[0] in world.elders[c]])
            for i in range(fields):
                self.assertEqual(laying.place_of((c, i)), (reach + i + 1) * way)
            self.assertIsNone(close_fault(world, laying))
            return True
        return False

    def test_methods_are_kept(self):
        world = World([((), 1, (3, 1)), ((0,), 1, (5,))])
        declaring = go_on_from(world, TWO, (0, 0), Laying(world, (-1, -2)))
        self.assertEqual(declaring.world_now.methods, ((1, 3), (5,)))
        self.assertEqual(declaring.declare((1,), 1, kind=1), 2)
        self.assertEqual(declaring.world_now.methods, ((1, 3), (5,), ()))
        self.assertEqual((declaring.sides, declaring.places_now), (("down", "up"), (-1, -2, 1)))
        self.assertIs(may_meet(declaring, 0, 1), True)

    def test_only_the_pieces_that_are_turned(self):
        kinds = Kinds(5, [(0, 1), (2, 3)], [4])
        world = plain_world([(), (), ()], [1, 1, 0])
        declaring = go_on_from(world, kinds, (1, 3, 4), Laying(world, (-1, 1)))
        self.assertEqual(declaring.sides, ("up", "down", "down", "up", "up"))
        declaring = go_on_from(world, kinds, (1, 3, 4), Laying(world, (1, 1)))
        self.assertEqual(declaring.sides, ("down", "up", "down", "up", "up"))

    def test_refused_in_order(self):
        world = plain_world([(), ()], [1, 2])
        not_close = Laying(world, (3, 3, 3))
        self.assertEqual(caught(Unsafe, go_on_from, world, RING, (0, 1), not_close), {"ring": (0, 1, 2)})
        self.assertEqual(caught(NotLasting, go_on_from, world, TWO, (0, 1), not_close),
                         {"what": "close", "first": None, "second": None})
        self.assertEqual(caught(NotLasting, go_on_from, world, TWO, (0, 1), Laying(world, (1, 1, -1))),
                         {"what": "split", "first": 1, "second": 1})
        self.assertEqual(caught(NotLasting, go_on_from, world, TWO, (0, 1), Laying(world, (1, 2, 1))),
                         {"what": "sides", "first": 0, "second": 1})

    def test_what_is_passed_in_has_no_effect_later(self):
        world = plain_world([(), ()], [1, 1])
        given = [0, 1]
        laying = Laying(world, (1, -1))
        declaring = go_on_from(world, TWO, given, laying)
        given[0] = 1
        self.assertEqual(declaring.given_now, (0, 1))
        declaring.declare((0, 1), 2, kind=1)
        self.assertEqual((len(world), laying.places), (2, (1, -1)))
        other = go_on_from(world, TWO, (0, 1), laying)
        self.assertEqual((len(other), len(declaring)), (2, 3))


class ExampleTest(unittest.TestCase):
    def test_example(self):
        world = plain_world([(), ()], [1, 2])
        self.assertEqual(told(lasting_fault(world, TWO, (0, 1), Laying(world, (1, 1, -1)))),
                         {"what": "split", "first": 1, "second": 1})
        heir = world.with_class((0, 1), 0, ())
        self.assertIs(begins_close(heir, (1, 1, -1)), False)
        self.assertEqual(free_joins(TWO), [(0, 1)])


if __name__ == "__main__":
    unittest.main()

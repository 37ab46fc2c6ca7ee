"""[3.1] to [3.5], [0.3] to [0.5]: kinds."""

import itertools
import random
import unittest

from headamid.errors import BadGiven, BadJoins, BadKinds, BadKindSides, BadRing, NoKind, NotKept
from headamid.kinds import (
    Breach, KindRing, Kinds, Sides, check_given, check_kept, check_kind, check_kind_sides, join_world, kept_fault,
    kind_sides, ring_fault_of, ring_world, side_clash, side_rows, threes_of,
)
from headamid.layings import close_fault
from headamid.rings import OddRing, all_layings, laid_world, laying_by
from headamid.worlds import World
from tests.samples import NO_SEQUENCES, SAME, plain_world, random_world, random_worlds, told

NO_KINDS = (True, False, 1.0, -1, None, "0", (), (0,), [0], {}, object(), SAME)


def all_kinds():
    """All Kinds of up to three kinds, and many of four and five."""
    found = []
    for many in range(1, 6):
        pairs = list(itertools.combinations(range(many), 2))
        for size in range(len(pairs) + 1):
            for joined in itertools.combinations(pairs, size):
                for bare_size in range(many + 1):
                    for bare in itertools.combinations(range(many), bare_size):
                        found.append((many, joined, bare))
    return [Kinds(*row) for row in found if row[0] < 4] + [
        Kinds(*row) for row in random.Random(24).sample([row for row in found if row[0] > 3], 800)]


ALL_KINDS = all_kinds()


def free_joins(kinds):
    """The joined couples without a bare kind."""
    return [pair for pair in kinds.joined if not set(pair) & set(kinds.bare)]


def due_rows(kinds):
    """All rows of kind sides without a clash that are "up" for the bare kinds."""
    rows = itertools.product(("down", "up"), repeat=kinds.many)
    return [row for row in rows if all(row[one] != row[other] for one, other in free_joins(kinds))
            and all(row[kind] == "up" for kind in kinds.bare)]


def due_ring(kinds):
    """The first of the shortest odd rings, None if there is none."""
    joins = free_joins(kinds)
    for many in (3, 5):
        for ring in itertools.permutations(range(kinds.many), many):
            if all(tuple(sorted((ring[k - 1], ring[k]))) in joins for k in range(many)):
                return ring
    return None


def kind_pieces(kinds):
    """The pieces of the kinds."""
    pieces = [{kind} for kind in range(kinds.many) if kind not in kinds.bare]
    for one, other in free_joins(kinds):
        both = [piece for piece in pieces if one in piece or other in piece]
        pieces = [piece for piece in pieces if piece not in both] + [set().union(*both)]
    return pieces


def random_given(rng, kinds, classes):
    """A world and kinds for its classes, drawn so that it often keeps the kinds."""
    world = random_world(rng, classes, 2)
    return world, tuple(rng.randrange(kinds.many) for _ in range(classes))


class KindsTest(unittest.TestCase):
    def fault(self, *things):
        with self.assertRaises(BadKinds) as caught:
            Kinds(*things)
        self.assertEqual(list(told(caught.exception)), ["index", "what"])
        return caught.exception.index, caught.exception.what

    def test_attributes(self):
        kinds = Kinds(4, [[3, 1], (0, 1), [2, 0]], [3, 0])
        self.assertEqual((kinds.many, kinds.joined, kinds.bare), (4, ((0, 1), (0, 2), (1, 3)), (0, 3)))
        kinds = Kinds(1, [])
        self.assertEqual((kinds.many, kinds.joined, kinds.bare), (1, (), ()))
        for kinds in (Kinds(3, [[0, 1]], [2]), Kinds(3, ((1, 0),), (2,))):
            self.assertEqual([type(kinds.joined), type(kinds.joined[0]), type(kinds.bare)], [tuple] * 3)
        self.assertEqual(Kinds(joined=(), many=5, bare=(4,)).bare, (4,))

    def test_many(self):
        for thing in (0, 6, -1, True, 1.0, None, "1", (1,)):
            self.assertEqual(self.fault(thing, None, None), (0, "many"))

    def test_joined_and_join(self):
        for thing in NO_SEQUENCES:
            self.assertEqual(self.fault(3, thing, None), (0, "joined"))
        right = [(0, 1), [2, 1], (0, 2)]
        for index in range(4):
            for thing in NO_SEQUENCES + ((), (0,), (0, 0), (0, 3), (-1, 0), (0, True), [0, 1.0], (0, 1, 2), [[0], 1]):
                self.assertEqual(self.fault(3, right[:index] + [thing, None], None), (index, "join"))
            for earlier in right[:index]:
                self.assertEqual(self.fault(3, right[:index] + [earlier], ()), (index, "join"))
                self.assertEqual(self.fault(3, right[:index] + [earlier[::-1]], ()), (index, "join"))

    def test_bare(self):
        for thing in NO_SEQUENCES:
            self.assertEqual(self.fault(3, [(0, 1)], thing), (0, "bare"))
        right = [2, 0, 1]
        for index in range(4):
            for thing in NO_KINDS + (3,):
                self.assertEqual(self.fault(3, [], right[:index] + [thing, None]), (index, "bare"))
            for earlier in right[:index]:
                self.assertEqual(self.fault(3, [], tuple(right[:index]) + (earlier,)), (index, "bare"))

    def test_two_faults_at_once(self):
        self.assertEqual(self.fault(0, 0, 0), (0, "many"))
        self.assertEqual(self.fault(2, 0, 0), (0, "joined"))
        self.assertEqual(self.fault(2, [(0, 1), 5], 0), (1, "join"))
        self.assertEqual(self.fault(2, [(0, 1), (1, 0), 5], [7]), (1, "join"))

    def test_equality(self):
        kinds = Kinds(3, [(0, 1), (1, 2)], [2])
        self.assertIs(kinds == Kinds(3, [[2, 1], [1, 0]], (2,)), True)
        self.assertIs(kinds != Kinds(3, [[2, 1], [1, 0]], (2,)), False)
        for other in (Kinds(4, [(0, 1), (1, 2)], [2]), Kinds(3, [(0, 1)], [2]), Kinds(3, [(0, 1), (1, 2)]), None, 3,
                      (3, ((0, 1), (1, 2)), (2,)), object(), Kinds, SAME):
            self.assertIs(kinds == other, False)
            self.assertIs(kinds != other, True)

    def test_later_changes_have_no_effect(self):
        pair, bare = [1, 0], [2]
        joined = [pair]
        kinds = Kinds(3, joined, bare)
        pair[0] = 2
        joined.append(0)
        bare.append(1)
        self.assertEqual((kinds.joined, kinds.bare), (((0, 1),), (2,)))

    def test_in_ring(self):
        self.assertEqual(Kinds.in_ring(3), Kinds(3, [(0, 1), (1, 2), (0, 2)]))
        self.assertEqual(Kinds.in_ring(4), Kinds(4, [(0, 1), (1, 2), (2, 3), (0, 3)]))
        self.assertEqual(Kinds.in_ring(5), Kinds(5, [(0, 1), (1, 2), (2, 3), (3, 4), (0, 4)]))
        self.assertEqual(Kinds.in_ring(5).bare, ())
        self.assertIsInstance(vars(Kinds)["in_ring"], staticmethod)
        for thing in (2, 6, 0, True, 3.0, None, "3", (3,)):
            with self.assertRaises(BadKinds) as caught:
                Kinds.in_ring(thing)
            self.assertEqual(told(caught.exception), {"index": 0, "what": "many"})

    def test_are_joined_and_is_bare(self):
        for kinds in ALL_KINDS[:300]:
            for one in range(kinds.many):
                self.assertIs(kinds.is_bare(one), one in kinds.bare)
                self.assertEqual(check_kind(kinds, one), one)
                for other in range(kinds.many):
                    due = (one, other) in kinds.joined or (other, one) in kinds.joined
                    self.assertIs(kinds.are_joined(one, other), due)

    def test_no_kind(self):
        kinds = Kinds(2, [(0, 1)], [1])
        for thing in NO_KINDS + (2, 99):
            for call in (lambda: kinds.are_joined(thing, 9), lambda: kinds.are_joined(1, thing),
                         lambda: kinds.is_bare(thing), lambda: check_kind(kinds, thing)):
                with self.assertRaises(NoKind) as caught:
                    call()
                self.assertIs(caught.exception.kind, thing)


class KeptTest(unittest.TestCase):
    def due_fault(self, world, kinds, given):
        for c in range(len(world)):
            if world.owns[c] and given[c] in kinds.bare:
                return (c, c, c, "bare")
            for first, second in itertools.combinations(sorted((c, *world.elders[c])), 2):
                if given[first] != given[second] and tuple(sorted((given[first], given[second]))) not in kinds.joined:
                    return (c, first, second, "kind")
                if given[first] == given[second] and first not in world.elders[second]:
                    return (c, first, second, "line")
        return None

    def test_given(self):
        kinds = Kinds(2, [(0, 1)])
        world = plain_world([(), ()], [0, 0])
        self.assertEqual(check_given(world, kinds, [1, 0]), (1, 0))
        self.assertIs(type(check_given(world, kinds, [1, 0])), tuple)
        for function in (check_given, kept_fault, check_kept):
            for thing in NO_SEQUENCES + ((), (0,), [0, 0, 0], (None,) * 3):
                self.check_bad_given(function, world, kinds, thing, 0)
            for thing in NO_KINDS + (2,):
                self.check_bad_given(function, world, kinds, (thing, thing), 0)
                self.check_bad_given(function, world, kinds, [0, thing], 1)

    def check_bad_given(self, function, world, kinds, given, index):
        with self.assertRaises(BadGiven) as caught:
            function(world, kinds, given)
        self.assertEqual(told(caught.exception), {"index": index})

    def test_drawn(self):
        rng = random.Random(25)
        words = {None: 0, "bare": 0, "kind": 0, "line": 0}
        for kinds in ALL_KINDS:
            world, given = random_given(rng, kinds, rng.randint(1, 6))
            due = self.due_fault(world, kinds, given)
            fault = kept_fault(world, kinds, list(given))
            words[due and due[3]] += 1
            if due is None:
                self.assertIsNone(fault)
                self.assertEqual(check_kept(world, kinds, list(given)), given)
                continue
            self.assertIs(type(fault), Breach)
            self.assertEqual(list(told(fault).items()), list(zip(("cls", "first", "second", "what"), due)))
            with self.assertRaises(NotKept) as caught:
                check_kept(world, kinds, given)
            self.assertEqual(told(caught.exception), told(fault))
        self.assertGreater(min(words.values()), 10)

    def test_by_hand(self):
        def row(bases, owns, given):
            fault = kept_fault(plain_world(bases, owns), Kinds(3, [(0, 1), (1, 2)], [2]), given)
            return fault and tuple(told(fault).values())
        self.assertIsNone(row([(), (), (0, 1)], [1, 1, 1], (0, 1, 0)))
        self.assertEqual(row([(), (), (0, 1)], [1, 0, 1], (0, 2, 0)), (2, 0, 1, "kind"))
        self.assertEqual(row([(), (), (0, 1)], [1, 1, 1], (0, 0, 0)), (2, 0, 1, "line"))
        self.assertEqual(row([(), (), (0, 1)], [1, 1, 1], (0, 1, 2)), (2, 2, 2, "bare"))
        self.assertEqual(row([(), (), (0, 1)], [1, 1, 0], (0, 1, 2)), (2, 0, 2, "kind"))
        self.assertEqual(row([(), (0,), (0,), (1, 2)], [1, 1, 1, 0], (1, 1, 0, 0)), None)
        self.assertEqual(row([(), (0,), (0,), (1, 2)], [1, 1, 1, 0], (1, 0, 0, 0)), (3, 1, 2, "line"))


class SidesTest(unittest.TestCase):
    def test_checked(self):
        kinds = Kinds(3, [(0, 1)], [2])
        self.assertEqual(check_kind_sides(kinds, ["up", "up", "down"]), ("up", "up", "down"))
        self.assertIs(type(check_kind_sides(kinds, ["up", "up", "down"])), tuple)
        for function in (check_kind_sides, side_clash):
            for thing in NO_SEQUENCES + ((), ("up",) * 2, ["up"] * 4, (None,) * 2):
                self.check_bad_sides(function, kinds, thing, 0)
            for index in range(3):
                for thing in (None, True, 1, "", "UP", b"up", ("up",), ["up"], {}, SAME):
                    sides = ["up", "up", "up"]
                    sides[index] = thing
                    self.check_bad_sides(function, kinds, sides, index)
                    self.check_bad_sides(function, kinds, sides[:index + 1] + [None] * (2 - index), index)

    def check_bad_sides(self, function, kinds, sides, index):
        with self.assertRaises(BadKindSides) as caught:
            function(kinds, sides)
        self.assertEqual(told(caught.exception), {"index": index})

    def test_clashes(self):
        for kinds in ALL_KINDS[:400]:
            for sides in itertools.product(("up", "down"), repeat=kinds.many):
                due = [pair for pair in free_joins(kinds) if sides[pair[0]] == sides[pair[1]]]
                self.assertEqual(side_clash(kinds, list(sides)), due[0] if due else None)

    def test_rows_sides_and_rings(self):
        rings = 0
        for kinds in ALL_KINDS:
            rows = due_rows(kinds)
            self.assertEqual(list(side_rows(kinds)), rows)
            found = kind_sides(kinds)
            if rows:
                self.assertEqual(len(rows), 2 ** len(kind_pieces(kinds)))
                due = [row for row in rows if all(row[min(piece)] == "up" for piece in kind_pieces(kinds))]
                self.assertIs(type(found), Sides)
                self.assertEqual([found.sides], due)
                self.assertEqual(list(told(found)), ["sides"])
            else:
                rings += 1
                self.assertIs(type(found), KindRing)
                self.assertEqual(told(found), {"ring": due_ring(kinds)})
                self.assertIsNone(ring_fault_of(kinds, found.ring))
        self.assertGreater(rings, 50)

    def test_by_hand(self):
        kinds = Kinds(4, [(1, 2), (2, 3)], [0])
        self.assertEqual(kind_sides(kinds).sides, ("up", "up", "down", "up"))
        self.assertEqual(list(side_rows(kinds)), [("up", "down", "up", "down"), ("up", "up", "down", "up")])
        self.assertEqual(kind_sides(Kinds.in_ring(5)).ring, (0, 1, 2, 3, 4))
        self.assertEqual(kind_sides(Kinds.in_ring(4)).sides, ("up", "down", "up", "down"))
        self.assertEqual(list(side_rows(Kinds.in_ring(3))), [])
        five = Kinds(5, [(0, 2), (2, 1), (1, 4), (4, 3), (3, 0)])
        self.assertEqual(kind_sides(five).ring, (0, 2, 1, 4, 3))
        two = Kinds(5, [(0, 1), (1, 2), (2, 3), (3, 4), (0, 4), (2, 4)])
        self.assertEqual(kind_sides(two).ring, (2, 3, 4))
        bare = Kinds(4, [(0, 1), (0, 2), (1, 2), (1, 3), (2, 3)], [0])
        self.assertEqual(kind_sides(bare).ring, (1, 2, 3))
        self.assertEqual(kind_sides(Kinds(3, [(0, 1), (0, 2), (1, 2)], [1])).sides, ("up", "up", "down"))

    def test_side_rows_is_a_generator(self):
        rows = side_rows(Kinds(2, []))
        self.assertIs(iter(rows), rows)
        self.assertEqual(next(rows), ("down", "down"))
        self.assertEqual(list(rows), [("down", "up"), ("up", "down"), ("up", "up")])


class RingTest(unittest.TestCase):
    def due_word(self, kinds, ring):
        if len(ring) < 3 or len(set(ring)) < len(ring) or not set(ring) <= set(range(kinds.many)) - set(kinds.bare):
            return "kind"
        if any(tuple(sorted((ring[k - 1], ring[k]))) not in kinds.joined for k in range(len(ring))):
            return "join"
        return "even" if len(ring) % 2 == 0 else None

    def test_all_short_rows(self):
        words = set()
        for kinds in random.Random(26).sample(ALL_KINDS, 60) + [Kinds.in_ring(4), Kinds.in_ring(5)]:
            rows = [row for size in range(5) for row in itertools.product(range(kinds.many), repeat=size)]
            rows += list(itertools.permutations(range(kinds.many)))
            for row in rows:
                due = self.due_word(kinds, row)
                words.add(due)
                self.assertEqual(ring_fault_of(kinds, row), due)
                self.assertEqual(ring_fault_of(kinds, list(row)), due)
        self.assertEqual(words, {None, "kind", "join", "even"})

    def test_strange_things(self):
        kinds = Kinds.in_ring(3)
        for thing in NO_SEQUENCES + ((), (0, 1), (0, True, 2), [0, 1.0, 2], (0, 1, 3), (0, 1, -1), ("0", 1, 2)):
            self.assertEqual(ring_fault_of(kinds, thing), "kind")
        for row in ((0, 1, 2), [2, 1, 0], (1, 2, 0)):
            self.assertIsNone(ring_fault_of(kinds, row))

    def test_threes(self):
        for kinds in ALL_KINDS:
            joins = free_joins(kinds)
            due = [(a, b, c) for a, b, c in itertools.combinations(range(kinds.many), 3)
                   if (a, b) in joins and (a, c) in joins and (b, c) in joins]
            self.assertEqual(threes_of(kinds), tuple(due))
        self.assertEqual(threes_of(Kinds.in_ring(3)), ((0, 1, 2),))
        self.assertEqual(threes_of(Kinds.in_ring(5)), ())


class JoinWorldTest(unittest.TestCase):
    def test_by_hand(self):
        kinds = Kinds(5, [(0, 3), (1, 3), (1, 4), (2, 4)], [2])
        world, given = join_world(kinds, [[4, 1], (3, 1), (0, 3)])
        self.assertEqual(world, plain_world([(), (), (), (), (1, 3), (1, 2), (0, 2)], [1, 1, 1, 1, 0, 0, 0]))
        self.assertEqual(given, (0, 1, 3, 4, 1, 1, 0))
        world, given = join_world(kinds, ((3, 0),))
        self.assertEqual((world, given), (plain_world([(), (), (0, 1)], [1, 1, 0]), (0, 3, 0)))
        self.assertIs(type(join_world(kinds, ((3, 0),))), tuple)
        self.assertIs(type(given), tuple)

    def test_refused(self):
        kinds = Kinds(5, [(0, 1), (0, 3), (1, 3), (1, 4), (2, 4), (0, 4)], [2])
        right = [(0, 1), (3, 0), [1, 3], (1, 4), (4, 0)]
        self.assertEqual(len(join_world(kinds, right)[0]), 9)
        for thing in NO_SEQUENCES + ((), [], right + [(3, 4)], right + right, [None] * 6):
            self.check_refused(kinds, thing, 0)
        for index in range(5):
            for thing in NO_SEQUENCES + ((2, 4), (3, 4), (0, 0), (0,), (0, 1, 3), (0, 5), (0, True), [1.0, 0], ()):
                self.check_refused(kinds, right[:index] + [thing] + [None] * (4 - index), index)
            for earlier in right[:index]:
                self.check_refused(kinds, right[:index] + [earlier[::-1]], index)

    def check_refused(self, kinds, joins, index):
        with self.assertRaises(BadJoins) as caught:
            join_world(kinds, joins)
        self.assertEqual(told(caught.exception), {"index": index})

    def test_ring_worlds(self):
        world, given = ring_world(Kinds.in_ring(3), [2, 0, 1])
        self.assertEqual(world, plain_world([(), (), (), (0, 2), (0, 1), (1, 2)], [1, 1, 1, 0, 0, 0]))
        self.assertEqual(given, (0, 1, 2, 0, 0, 1))
        world, given = ring_world(Kinds.in_ring(5), (4, 3, 2, 1, 0))
        self.assertEqual(world.bases[5:], ((3, 4), (2, 3), (1, 2), (0, 1), (0, 4)))
        self.assertEqual(given, (0, 1, 2, 3, 4, 3, 2, 1, 0, 0))

    def test_ring_worlds_refused(self):
        for ring, what in (((0, 1), "kind"), (None, "kind"), ((0, 1, 1), "kind"), ((0, 1, 2), "join"),
                           ((0, 1, 2, 3), "even")):
            with self.assertRaises(BadRing) as caught:
                ring_world(Kinds.in_ring(4), ring)
            self.assertEqual(told(caught.exception), {"what": what})

    def test_both_worlds_keep_the_kinds_and_have_no_close_laying(self):
        clashes = 0
        for kinds in ALL_KINDS:
            found = kind_sides(kinds)
            if isinstance(found, KindRing):
                world, given = ring_world(kinds, found.ring)
                self.assertIsNone(kept_fault(world, kinds, given))
                self.assertIsInstance(laid_world(world), OddRing)
            for pair in free_joins(kinds):
                world, given = join_world(kinds, [pair])
                self.assertIsNone(kept_fault(world, kinds, given))
                sides = [laying.side_words() for laying in all_layings(world)]
                self.assertEqual(sorted(sides), [("down", "up"), ("up", "down")])
                clashes += 1
        self.assertGreater(clashes, 500)

    def test_a_row_without_a_clash_serves_all_worlds_that_keep_the_kinds(self):
        rng = random.Random(27)
        kept = 0
        for kinds in ALL_KINDS * 2:
            world, given = random_given(rng, kinds, rng.randint(2, 7))
            if kept_fault(world, kinds, given) is not None:
                continue
            for row in side_rows(kinds):
                kept += 1
                sides = [row[given[c]] for c, _ in world.all_fields]
                laying = laying_by(world, sides)
                self.assertIsNone(close_fault(world, laying))
                self.assertEqual(list(laying.side_words()), sides)
        self.assertGreater(kept, 300)


class ResultsTest(unittest.TestCase):
    def test_results_keep_what_they_are_given(self):
        thing = [1]
        self.assertEqual(list(told(Breach(0, 1, 2, thing)).items()),
                         [("cls", 0), ("first", 1), ("second", 2), ("what", thing)])
        self.assertIs(Sides(thing).sides, thing)
        self.assertIs(KindRing(thing).ring, thing)
        for result in (Breach(0, 1, 2, "bare"), Sides(()), KindRing(())):
            self.assertNotIsInstance(result, tuple)

    def test_worlds_are_worlds(self):
        for world in random_worlds(28, 3, 3, 1):
            self.assertIsInstance(world, World)
        self.assertIsInstance(ring_world(Kinds.in_ring(3), (0, 1, 2))[0], World)


if __name__ == "__main__":
    unittest.main()

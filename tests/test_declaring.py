"""[3.6], [3.7], [3.11]: declaring classes."""

import random
import unittest

from headamid.declaring import Declaring, kinds_for, may_meet
from headamid.errors import BadKindSides, BadWorld, KinError, NoClass, NoKind, NotKept, SideClash, Unsafe
from headamid.kinds import Kinds, check_kind_sides, kept_fault, kind_sides, side_rows
from headamid.layings import Laying, close_fault
from headamid.worlds import World
from tests.samples import NO_SEQUENCES, plain_world, told

TWO = Kinds(2, [(0, 1)])
SAFE = (
    Kinds(1, []), TWO, Kinds(3, [(0, 1), (1, 2)]), Kinds(3, [(0, 1), (1, 2), (0, 2)], [1]),
    Kinds(4, [(0, 1), (2, 3)]), Kinds.in_ring(4), Kinds(5, [(0, 1), (0, 2), (0, 3), (0, 4), (1, 2)], [2]),
    Kinds(5, [(0, 1), (1, 2), (2, 3), (3, 4), (0, 4)], [4]),
)
WRONG_CLASSES = (
    (None, 0, "base"), ((0, 0), 0, "base"), ((99,), 9, "base"), ((True,), 0, "base"), ((-1,), 0, "base"),
    ((), 4, "fields"), ((), -1, "fields"), ((), True, "fields"), ((), 1.0, "fields"), ((), None, "fields"),
)


def state(declaring):
    """All that a Declaring shows."""
    return (declaring.world_now, declaring.given_now, declaring.laying_now, declaring.places_now, len(declaring),
            declaring.sides)


def drawn_history(rng, kinds, sides=None):
    """A Declaring and the list of the classes that were put in, with the refused calls checked on the way."""
    declaring = Declaring(kinds, sides)
    history = []
    for _ in range(60):
        many = len(declaring)
        bases = rng.sample(range(many), rng.randint(0, min(many, 3)))
        entry = (bases, rng.randint(0, 3), rng.randrange(kinds.many))
        before = state(declaring)
        try:
            c = declaring.declare(entry[0], entry[1], kind=entry[2])
        except KinError as error:
            history.append((entry, error))
            if state(declaring) != before:
                raise AssertionError("a refused call changes nothing") from error
        else:
            history.append((entry, None))
            if c != many:
                raise AssertionError("the number of the class")
    return declaring, history


class DeclaringTest(unittest.TestCase):
    def test_at_first(self):
        for kinds in SAFE:
            declaring = Declaring(kinds)
            self.assertIs(declaring.kinds, kinds)
            self.assertEqual(declaring.sides, kind_sides(kinds).sides)
            self.assertEqual(state(declaring)[:5], (None, (), None, (), 0))
        for name in ("world_now", "laying_now", "given_now", "places_now"):
            self.assertIsInstance(vars(Declaring)[name], property)

    def test_sides(self):
        for kinds in SAFE:
            for sides in side_rows(kinds):
                declaring = Declaring(kinds, list(sides))
                self.assertEqual(declaring.sides, sides)
                self.assertIs(type(declaring.sides), tuple)
                self.assertEqual(Declaring(kinds, sides=sides).sides, sides)
        bare = Kinds(2, [(0, 1)], [1])
        for sides in (("up", "up"), ("down", "down"), ("up", "down")):
            self.assertEqual(Declaring(bare, sides).sides, sides)

    def test_later_changes_have_no_effect(self):
        sides = ["up", "down"]
        declaring = Declaring(TWO, sides)
        sides[1] = "up"
        self.assertEqual(declaring.sides, ("up", "down"))

    def test_refused_kinds_and_sides(self):
        for sides in (None, 7, ("up",) * 3, ("up", "down", "up")):
            with self.assertRaises(Unsafe) as caught:
                Declaring(Kinds.in_ring(3), sides)
            self.assertEqual(told(caught.exception), {"ring": (0, 1, 2)})
        with self.assertRaises(Unsafe) as caught:
            Declaring(Kinds(5, [(0, 1), (1, 2), (2, 3), (3, 4), (0, 4), (2, 4)]))
        self.assertEqual(told(caught.exception), {"ring": (2, 3, 4)})
        three = Kinds(3, [(0, 1), (1, 2)])
        for sides, index in (((), 0), (("up", "up"), 0), ("ud", 0), (("up", None, "x"), 1), (["up", "up", 1], 2),
                             (False, 0), (0, 0)):
            with self.assertRaises(BadKindSides) as caught:
                Declaring(three, sides)
            self.assertEqual(told(caught.exception), {"index": index})
        for sides, pair in ((("up", "up", "up"), (0, 1)), (("up", "down", "down"), (1, 2)), (["down"] * 3, (0, 1))):
            with self.assertRaises(SideClash) as caught:
                Declaring(three, sides)
            self.assertEqual(told(caught.exception), {"first": pair[0], "second": pair[1]})

    def test_places_by_hand(self):
        declaring = Declaring(TWO)
        rows = (((), 1, 0, (1,)), ((), 2, 1, (-1, -2)), ((1, 0), 3, 1, (-3, -4, -5)), ([2], 2, 0, (2, 3)),
                ((0,), 1, 0, (2,)), ([], 0, 0, ()), ((1,), 1, 0, (1,)))
        places = ()
        for c, (bases, fields, kind, own) in enumerate(rows):
            self.assertEqual(declaring.declare(bases, fields, kind=kind), c)
            places += own
            self.assertEqual(declaring.places_now, places)
            self.assertEqual(declaring.laying_now.places, places)
        self.assertEqual(declaring.given_now, (0, 1, 1, 0, 0, 0, 0))
        self.assertEqual(declaring.world_now.bases, ((), (), (1, 0), (2,), (0,), (), (1,)))
        turned = Declaring(TWO, ("down", "up"))
        for bases, fields, kind, _ in rows:
            turned.declare(bases, fields, kind=kind)
        self.assertEqual(turned.places_now, tuple(-place for place in places))

    def test_kind_is_passed_by_keyword(self):
        with self.assertRaises(TypeError):
            Declaring(TWO).declare((), 1, 0)
        with self.assertRaises(TypeError):
            Declaring(TWO).declare((), 1)
        self.assertEqual(Declaring(TWO).declare(bases=(), fields=1, kind=1), 0)

    def test_drawn_histories(self):
        rng = random.Random(29)
        full = 0
        for kinds in SAFE * 4:
            rows = [None] + list(side_rows(kinds))
            declaring, history = drawn_history(rng, kinds, rng.choice(rows))
            full += len(declaring) == 12
            self.check_history(kinds, declaring, history)
        self.assertGreater(full, 8)

    def check_history(self, kinds, declaring, history):
        entries, given = [], []
        for (bases, fields, kind), error in history:
            if len(entries) == 12:
                self.assertEqual((type(error), told(error)), (BadWorld, {"index": 0, "what": "many"}))
                continue
            longer = entries + [(tuple(bases), fields, ())]
            fault = kept_fault(World(longer), kinds, given + [kind])
            if fault is None:
                self.assertIsNone(error)
                entries, given = longer, given + [kind]
            else:
                self.assertEqual((type(error), told(error)), (NotKept, told(fault)))
                self.assertEqual(error.cls, len(entries))
        self.check_state(kinds, declaring, entries, given)

    def check_state(self, kinds, declaring, entries, given):
        world = World(entries)
        place = {}
        for c, i in world.all_fields:
            way = 1 if declaring.sides[given[c]] == "up" else -1
            reach = max([0] + [place[f] * way for f in place if f[0] in world.elders[c]])
            place[c, i] = (reach + i + 1) * way
        self.assertEqual(declaring.world_now, world)
        self.assertEqual(declaring.given_now, tuple(given))
        self.assertEqual(declaring.places_now, tuple(place[field] for field in world.all_fields))
        self.assertEqual(declaring.laying_now, Laying(world, declaring.places_now))
        self.assertIsNone(close_fault(world, declaring.laying_now))
        self.assertEqual(len(declaring), len(entries))
        self.assertEqual([type(thing) for thing in (declaring.given_now, declaring.places_now)], [tuple, tuple])

    def test_what_a_property_returned_stays(self):
        declaring = Declaring(TWO)
        declaring.declare((), 2, kind=0)
        world, given, laying, places = state(declaring)[:4]
        sides = declaring.sides
        declaring.declare([0], 1, kind=1)
        self.assertEqual((world, given, laying.places, places), (plain_world([()], [2]), (0,), (1, 2), (1, 2)))
        self.assertEqual((len(world), laying.fields, sides), (1, ((0, 0), (0, 1)), ("up", "down")))
        self.assertEqual(declaring.places_now[:2], places)

    def test_each_call_is_close_and_lengthens_the_places(self):
        rng = random.Random(30)
        for kinds in SAFE:
            declaring = Declaring(kinds)
            places = ()
            while len(declaring) < 12:
                many = len(declaring)
                bases = rng.sample(range(many), rng.randint(0, min(many, 2)))
                fields = rng.randint(0, 3)
                for kind in kinds_for(declaring, bases, fields)[:1]:
                    declaring.declare(bases, fields, kind=kind)
                    self.assertEqual(declaring.places_now[:len(places)], places)
                    places = declaring.places_now
                    self.assertIsNone(close_fault(declaring.world_now, declaring.laying_now))

    def test_another_order_gives_the_same_places(self):
        rows = (((), 1, 0), ((), 2, 1), ((0, 1), 3, 0), ((1,), 1, 1), ((2,), 2, 1))
        order = (1, 3, 0, 2, 4)
        one, other = Declaring(TWO), Declaring(TWO)
        for bases, fields, kind in rows:
            one.declare(bases, fields, kind=kind)
        for c in order:
            bases, fields, kind = rows[c]
            other.declare([order.index(base) for base in bases], fields, kind=kind)
        for c in range(5):
            for i in range(rows[c][1]):
                self.assertEqual(one.laying_now.place_of((c, i)), other.laying_now.place_of((order.index(c), i)))

    def test_refused_classes(self):
        empty, one = Declaring(TWO), Declaring(TWO)
        one.declare((), 1, kind=0)
        for declaring, many in ((empty, 0), (one, 1)):
            for bases, fields, what in WRONG_CLASSES:
                for kind in (0, 9, None):
                    self.check_refused(declaring, bases, fields, kind, BadWorld, {"index": many, "what": what})
            for thing in NO_SEQUENCES:
                self.check_refused(declaring, thing, 0, 0, BadWorld, {"index": many, "what": "base"})
            for kind in (2, -1, True, False, 0.0, None, "0", (0,)):
                self.check_refused(declaring, (), 1, kind, NoKind, {"kind": kind})
        one.declare((), 1, kind=0)
        fault = {"cls": 2, "first": 0, "second": 1, "what": "line"}
        self.check_refused(one, (0, 1), 1, 0, NotKept, fault)
        self.check_refused(one, (0, 1), 1, 5, NoKind, {"kind": 5})
        self.check_refused(one, (0, 1), 4, 5, BadWorld, {"index": 2, "what": "fields"})

    def check_refused(self, declaring, bases, fields, kind, error, attributes):
        before = state(declaring)
        with self.assertRaises(error) as caught:
            declaring.declare(bases, fields, kind=kind)
        self.assertEqual((type(caught.exception), told(caught.exception)), (error, attributes))
        self.assertEqual(state(declaring), before)

    def test_bare_kinds(self):
        declaring = Declaring(Kinds(2, [(0, 1)], [1]))
        self.check_refused(declaring, (), 1, 1, NotKept, {"cls": 0, "first": 0, "second": 0, "what": "bare"})
        declaring.declare((), 0, kind=1)
        declaring.declare((0,), 2, kind=0)
        self.assertEqual(declaring.places_now, (1, 2))

    def test_twelve_classes(self):
        declaring = Declaring(TWO)
        for c in range(12):
            declaring.declare([c - 1] if c else [], 3, kind=0)
        self.assertEqual(declaring.places_now, tuple(range(1, 37)))
        self.assertEqual(len(declaring), 12)
        self.check_refused(declaring, (), 0, 0, BadWorld, {"index": 0, "what": "many"})
        self.check_refused(declaring, None, None, None, BadWorld, {"index": 0, "what": "many"})


class KindsForTest(unittest.TestCase):
    def test_drawn(self):
        rng = random.Random(31)
        for kinds in SAFE * 2:
            declaring = Declaring(kinds)
            for _ in range(30):
                many = len(declaring)
                if many == 12:
                    break
                bases = rng.sample(range(many), rng.randint(0, min(many, 3)))
                fields = rng.randint(0, 2)
                before = state(declaring)
                found = kinds_for(declaring, bases, fields)
                self.assertEqual(state(declaring), before)
                self.assertEqual(found, tuple(k for k in range(kinds.many) if self.takes(declaring, bases, fields, k)))
                if found:
                    declaring.declare(bases, fields, kind=rng.choice(found))

    def takes(self, declaring, bases, fields, kind):
        """Whether a Declaring with the same classes takes a class of the kind."""
        again = Declaring(declaring.kinds, declaring.sides)
        for entry, elder_kind in zip(declaring.world_now or (), declaring.given_now):
            again.declare(entry[0], entry[1], kind=elder_kind)
        try:
            again.declare(bases, fields, kind=kind)
        except NotKept:
            return False
        return True

    def test_by_hand(self):
        declaring = Declaring(Kinds(3, [(0, 1), (1, 2)], [2]))
        self.assertEqual(kinds_for(declaring, (), 0), (0, 1, 2))
        self.assertEqual(kinds_for(declaring, [], 1), (0, 1))
        declaring.declare((), 1, kind=0)
        declaring.declare((), 1, kind=0)
        self.assertEqual(kinds_for(declaring, (0,), 0), (0, 1))
        self.assertEqual(kinds_for(declaring, (0, 1), 0), ())
        self.assertEqual(kinds_for(declaring, (), 0), (0, 1, 2))

    def test_refused(self):
        empty, full = Declaring(TWO), Declaring(TWO)
        for _ in range(12):
            full.declare((), 0, kind=0)
        for bases, fields, what in WRONG_CLASSES:
            self.check_refused(empty, bases, fields, {"index": 0, "what": what})
        self.check_refused(full, (), 0, {"index": 0, "what": "many"})
        self.check_refused(full, None, None, {"index": 0, "what": "many"})
        one = Declaring(TWO)
        one.declare((), 1, kind=1)
        for bases, fields, what in WRONG_CLASSES:
            self.check_refused(one, bases, fields, {"index": 1, "what": what})

    def check_refused(self, declaring, bases, fields, attributes):
        before = state(declaring)
        with self.assertRaises(BadWorld) as caught:
            kinds_for(declaring, bases, fields)
        self.assertEqual(told(caught.exception), attributes)
        self.assertEqual(state(declaring), before)


class MayMeetTest(unittest.TestCase):
    def test_drawn(self):
        rng = random.Random(32)
        answers = set()
        for kinds in SAFE * 3:
            declaring, _ = drawn_history(rng, kinds)
            told_before = {}
            entries = list(zip(declaring.world_now, declaring.given_now))
            again = Declaring(kinds)
            for entry, kind in entries:
                again.declare(entry[0], entry[1], kind=kind)
                many = len(again)
                for a in range(many):
                    for b in range(many):
                        found = may_meet(again, a, b)
                        self.assertIs(type(found), bool)
                        self.assertEqual(told_before.setdefault((a, b), found), found)
                        self.assertEqual(may_meet(again, b, a), found)
                        if many < 12:
                            self.assertEqual(found, kinds_for(again, sorted({a, b}), 0) != ())
                        answers.add(found)
        self.assertEqual(answers, {True, False})

    def test_elders_and_itself(self):
        rng = random.Random(33)
        for kinds in SAFE:
            declaring, _ = drawn_history(rng, kinds)
            for c in range(len(declaring)):
                self.assertIs(may_meet(declaring, c, c), True)
                for elder in declaring.world_now.elders[c]:
                    self.assertIs(may_meet(declaring, c, elder), True)

    def test_there_is_always_room(self):
        declaring = Declaring(TWO)
        for c in range(12):
            declaring.declare((), 1, kind=c % 2)
        self.assertIs(may_meet(declaring, 0, 1), True)
        self.assertIs(may_meet(declaring, 0, 2), False)
        self.assertIs(may_meet(declaring, 10, 11), True)

    def test_refused(self):
        empty, one = Declaring(TWO), Declaring(TWO)
        one.declare((), 1, kind=0)
        for thing in (1, -1, True, False, 0.0, None, "0", (0,), 99):
            for a, b in ((thing, 77), (0, thing)):
                with self.assertRaises(NoClass) as caught:
                    may_meet(one, a, b)
                self.assertIs(caught.exception.cls, thing)
            with self.assertRaises(NoClass) as caught:
                may_meet(empty, thing, 0)
            self.assertIs(caught.exception.cls, thing)
        with self.assertRaises(NoClass) as caught:
            may_meet(empty, 0, 0)
        self.assertEqual(caught.exception.cls, 0)


class ExampleTest(unittest.TestCase):
    def test_example(self):
        declaring = Declaring(TWO)
        self.assertEqual(declaring.declare((), 1, kind=0), 0)
        self.assertEqual(declaring.declare((), 2, kind=1), 1)
        self.assertEqual(declaring.declare((0, 1), 1, kind=0), 2)
        self.assertEqual(declaring.places_now, (1, -1, -2, 2))
        self.assertEqual(declaring.declare([1], 1, kind=0), 3)
        self.assertEqual(declaring.laying_now.place_of((3, 0)), 1)
        self.assertIs(may_meet(declaring, 0, 3), False)
        self.assertIs(may_meet(declaring, 0, 1), True)
        self.assertEqual(check_kind_sides(TWO, declaring.sides), ("up", "down"))


if __name__ == "__main__":
    unittest.main()

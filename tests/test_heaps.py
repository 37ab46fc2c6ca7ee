"""[9.1] to [9.7]: heaps."""

import random
import unittest

from headamid.errors import BadAddress, BadValue, NoClass, NoField, NotApart
from headamid.heaps import Heap
from headamid.holes import least_holes, weighed_holes
from headamid.layings import Laying, apart_fault
from tests.samples import (
    DIAMOND, NO_SEQUENCES, ONE, ROOTS, SAME, THREE, TWELVE, caught, plain_world, random_worlds, ringed_worlds, told,
)


def apart_laying(rng, world, farthest=4):
    """A drawn laying that is apart; not always a close one."""
    while True:
        reach = [place for place in range(-farthest, farthest + 1) if place != 0]
        laying = Laying(world, [rng.choice(reach) for _ in world.all_fields])
        if apart_fault(world, laying) is None:
            return laying
        farthest += 1


def class_fields(world, c):
    return [f for f in world.all_fields if f[0] == c or f[0] in world.elders[c]]


class Model:
    """What a heap should hold: a row of objects in their order, each with its class, its values and whether it is
    dropped. A value that names an object holds its number in the row."""

    def __init__(self, world, laying):
        self.world, self.laying, self.objects = world, laying, []

    def make(self, c):
        self.objects.append({"c": c, "dropped": False, "values": {f: 0 for f in class_fields(self.world, c)}})

    def addresses(self):
        """The address of each object, dropped ones too."""
        found, place = [], 0
        for thing in self.objects:
            cells = [0] + [self.laying.place_of(f) for f in thing["values"]]
            found.append(place - min(cells))
            place += max(cells) - min(cells) + 1
        return found, place

    def live(self):
        return [k for k, thing in enumerate(self.objects) if not thing["dropped"]]

    def shown(self, value):
        return ("at", self.addresses()[0][value[1]]) if isinstance(value, tuple) else value

    def cells(self):
        addresses, many = self.addresses()
        row = [None] * many
        for thing, address in zip(self.objects, addresses):
            row[address] = ("dropped" if thing["dropped"] else "head", thing["c"])
            for field, value in thing["values"].items():
                row[address + self.laying.place_of(field)] = self.shown(value)
        return tuple(row)

    def reached(self, numbers):
        found = set(numbers)
        while True:
            more = {value[1] for k in found for value in self.objects[k]["values"].values()
                    if isinstance(value, tuple) and not self.objects[value[1]]["dropped"]} - found
            if not more:
                return sorted(found)
            found |= more

    def relaid(self, laying):
        model = Model(self.world, laying)
        kept = self.live()
        for k in kept:
            model.make(self.objects[k]["c"])
            for field, value in self.objects[k]["values"].items():
                if isinstance(value, tuple):
                    value = ("at", kept.index(value[1])) if value[1] in kept else None
                model.objects[-1]["values"][field] = value
        elder, _ = self.addresses()
        news, _ = model.addresses()
        return model, tuple((elder[k], news[at]) for at, k in enumerate(kept))


def state(heap):
    return (heap.cells, heap.addresses, heap.counts)


class HeapTest(unittest.TestCase):
    def check(self, heap, model):
        addresses, _ = model.addresses()
        live = model.live()
        counts = [0] * len(model.world)
        for k in live:
            counts[model.objects[k]["c"]] += 1
        self.assertEqual(heap.cells, model.cells())
        self.assertEqual(heap.addresses, tuple(addresses[k] for k in live))
        self.assertEqual(heap.counts, tuple(counts))
        self.assertEqual([type(thing) for thing in state(heap)], [tuple] * 3)
        for k in live:
            self.assertEqual(heap.class_at(addresses[k]), model.objects[k]["c"])
            for field, value in model.objects[k]["values"].items():
                self.assertEqual(heap.value_at(addresses[k], list(field)), model.shown(value))

    def drawn_deed(self, rng, heap, model):
        """One deed at the heap and at its model; the heap and the model to go on with."""
        addresses, _ = model.addresses()
        live = model.live()
        deed = rng.choice(("make", "make", "make", "put", "put", "put", "put", "drop", "sweep", "relay", "compact"))
        if deed == "make":
            c = rng.randrange(len(model.world))
            model.make(c)
            self.assertEqual(heap.make_object(c), model.addresses()[0][-1])
        elif deed == "put" and live:
            self.put(rng, heap, model, rng.choice(live))
        elif deed == "drop" and live and rng.random() < 0.5:
            k = rng.choice(live)
            self.assertIsNone(heap.drop_object(addresses[k]))
            model.objects[k]["dropped"] = True
        elif deed == "sweep" and rng.random() < 0.4:
            self.sweep(rng, heap, model)
        elif deed == "relay" and rng.random() < 0.3:
            return self.relay(rng, heap, model)
        elif deed == "compact" and rng.random() < 0.3:
            model, couples = model.relaid(model.laying)
            self.assertEqual(heap.compact_cells(), couples)
        return heap, model

    def put(self, rng, heap, model, k):
        addresses, _ = model.addresses()
        if model.objects[k]["values"]:
            field = rng.choice(list(model.objects[k]["values"]))
            value = rng.choice((None, 7, -10 ** 20, ("at", rng.choice(model.live()))))
            shown = model.shown(value)
            shown = list(shown) if isinstance(shown, tuple) and rng.random() < 0.5 else shown
            self.assertIsNone(heap.put_value(addresses[k], field, shown))
            model.objects[k]["values"][field] = value

    def sweep(self, rng, heap, model):
        addresses, _ = model.addresses()
        live = model.live()
        roots = [rng.choice(live) for _ in range(rng.randint(0, 3))] if live else []
        reached = model.reached(roots)
        self.assertEqual(heap.reached_from([addresses[k] for k in roots]), tuple(addresses[k] for k in reached))
        rest = [k for k in live if k not in reached]
        self.assertEqual(heap.sweep_rest(tuple(addresses[k] for k in roots)), tuple(addresses[k] for k in rest))
        for k in rest:
            model.objects[k]["dropped"] = True

    def relay(self, rng, heap, model):
        before = state(heap)
        laying = apart_laying(rng, model.world)
        longer, couples = model.relaid(laying)
        found = heap.relaid_by(laying)
        self.assertEqual((type(found), len(found)), (tuple, 2))
        self.assertIs(type(found[0]), Heap)
        self.assertEqual(found[1], couples)
        self.check(found[0], longer)
        self.assertEqual(state(heap), before)
        found[0].make_object(0)
        self.assertEqual(state(heap), before)
        longer.make(0)
        kept = state(found[0])
        heap.make_object(0)
        self.assertEqual(state(found[0]), kept)
        return found[0], longer

    def test_drawn_deeds(self):
        rng = random.Random(701)
        for world in [ONE, DIAMOND, THREE, ROOTS] + random_worlds(702, 40, 6, 2):
            laying = apart_laying(rng, world)
            heap, model = Heap(world, laying), Model(world, laying)
            for _ in range(60):
                before = state(heap)
                kept = [tuple(row) for row in before]
                heap, model = self.drawn_deed(rng, heap, model)
                self.check(heap, model)
                self.assertEqual([tuple(row) for row in before], kept)
            self.assertEqual(heap.world, world)
            self.assertEqual(heap.laying, model.laying)

    def test_begins_with_no_cells(self):
        laying = Laying(THREE, (1, 2, -1, 3))
        heap = Heap(THREE, laying)
        self.assertEqual(state(heap), ((), (), (0,) * 7))
        self.assertIs(heap.world, THREE)
        self.assertIs(heap.laying, laying)
        self.assertEqual((heap.compact_cells(), heap.sweep_rest([]), heap.reached_from(())), ((), (), ()))
        self.assertEqual(caught(NotApart, Heap, THREE, Laying(THREE, (1, 2, 2, 3))), {"cls": 4, "cell": 2})
        self.assertEqual(caught(NotApart, Heap, THREE, Laying(THREE, (1, 1, 2, 3))), {"cls": 1, "cell": 1})

    def test_made_objects(self):
        heap = Heap(THREE, Laying(THREE, (1, 2, -1, 3)))
        self.assertEqual([heap.make_object(c) for c in (3, 2, 5, 0)], [0, 5, 8, 12])
        self.assertEqual(heap.cells, (
            ("head", 3), 0, None, 0, 0, ("head", 2), 0, 0, ("head", 5), 0, None, 0, ("head", 0), 0))
        self.assertEqual(heap.counts, (1, 0, 1, 1, 0, 1, 0))
        self.assertEqual([heap.class_at(address) for address in heap.addresses], [3, 2, 5, 0])
        for thing in (7, -1, True, False, 0.0, None, "0", (0,), SAME):
            self.assertIs(caught(NoClass, heap.make_object, thing)["cls"], thing)

    def test_dropped_objects(self):
        heap = Heap(ROOTS, Laying(ROOTS, (1, 1, -1)))
        one, two, three = [heap.make_object(c) for c in (1, 0, 1)]
        heap.put_value(three, (1, 0), ("at", one))
        heap.put_value(three, (1, 1), ("at", three))
        heap.put_value(two, (0, 0), ("at", three))
        heap.drop_object(one)
        self.assertEqual(heap.cells[one], ("dropped", 1))
        self.assertEqual((heap.addresses, heap.counts), ((two, three), (1, 1, 0)))
        self.assertEqual(heap.value_at(three, (1, 0)), ("at", one))
        self.assertEqual(heap.reached_from([two]), (two, three))
        for call in (heap.class_at, heap.drop_object):
            self.assertEqual(caught(BadAddress, call, one), {"address": one})
        self.assertEqual(caught(BadAddress, heap.value_at, one, (1, 0)), {"address": one})
        self.assertEqual(caught(BadValue, heap.put_value, two, (0, 0), ("at", one)), {})
        heap.drop_object(two)
        self.assertEqual(heap.compact_cells(), ((three, 1),))
        self.assertEqual(heap.cells, (("at", 1), ("head", 1), None))
        self.assertEqual(heap.addresses, (1,))

    def test_nothing_is_reached_through_a_dropped_object(self):
        world = plain_world([()], [2])
        heap = Heap(world, Laying(world, (1, -1)))
        one, two, three, four = [heap.make_object(0) for _ in range(4)]
        heap.put_value(one, (0, 0), ["at", two])
        heap.put_value(two, (0, 0), ("at", three))
        heap.put_value(three, (0, 1), ("at", one))
        self.assertEqual(heap.reached_from((one, one)), (one, two, three))
        self.assertEqual(heap.reached_from([four, three]), (one, two, three, four))
        heap.drop_object(two)
        self.assertEqual(heap.reached_from([one]), (one,))
        self.assertEqual(heap.sweep_rest([one]), (three, four))
        self.assertEqual(heap.sweep_rest([one]), ())
        self.assertEqual(heap.sweep_rest(()), (one,))
        self.assertEqual(heap.counts, (0,))

    def test_refused_in_order_and_without_a_change(self):
        heap = Heap(ROOTS, Laying(ROOTS, (1, 1, -1)))
        zero, one = heap.make_object(0), heap.make_object(1)
        self.assertEqual((zero, one), (0, 3))
        before = state(heap)
        bad = (1, 2, 4, 5, -3, True, False, 0.0, 3.0, None, "0", (0,), [3], {}, SAME)
        for thing in bad:
            for call in (heap.class_at, heap.drop_object):
                self.assertIs(caught(BadAddress, call, thing)["address"], thing)
            self.assertIs(caught(BadAddress, heap.value_at, thing, None)["address"], thing)
            self.assertIs(caught(BadAddress, heap.put_value, thing, None, True)["address"], thing)
            for call in (heap.reached_from, heap.sweep_rest):
                self.assertIs(caught(BadAddress, call, [0, 3, thing, None])["address"], thing)
                self.assertIs(caught(BadAddress, call, (thing, "x"))["address"], thing)
        for thing in NO_SEQUENCES:
            for call in (heap.reached_from, heap.sweep_rest):
                self.assertIs(caught(BadAddress, call, thing)["address"], thing)
        for thing in ((1, 0), (0, 1), (True, 0), (False, 0), (0, False), (0, 0.0), (0,), (0, 0, 0), None, "00", SAME):
            self.assertIs(caught(NoField, heap.value_at, 0, thing)["field"], thing)
            self.assertIs(caught(NoField, heap.put_value, 0, thing, True)["field"], thing)
        for thing in (True, False, 1.5, 0.0, "", "at", (), [], ("at",), ("at", 1), ("at", 2), ("at", True), ("at", 3.0),
                      ("at", None), ("at", 0, 0), ("At", 0), (b"at", 0), (SAME, 0), ("at", SAME), ["at", [0]], {},
                      ("head", 0), ("dropped", 0), (0, 3), SAME, ("at", -3)):
            self.assertEqual(caught(BadValue, heap.put_value, 3, (1, 0), thing), {})
        shared = Laying(ROOTS, (1, 2, 2))
        self.assertEqual(caught(NotApart, heap.relaid_by, shared), {"cls": 1, "cell": 2})
        self.assertEqual(state(heap), before)

    def test_values(self):
        heap = Heap(ROOTS, Laying(ROOTS, (1, 1, -1)))
        address = heap.make_object(1)
        link = ["at", address]
        for value, due in ((None, None), (0, 0), (-5, -5), (10 ** 30, 10 ** 30), (link, ("at", 1)),
                           (("at", 1), ("at", 1))):
            self.assertIsNone(heap.put_value(address, [1, 1], value))
            self.assertEqual(heap.value_at(address, (1, 1)), due)
            self.assertIs(type(heap.value_at(address, (1, 1))), type(due))
        heap.put_value(address, (1, 1), link)
        link[1] = 7
        self.assertEqual(heap.value_at(address, (1, 1)), ("at", 1))

    def test_relaid_and_compacted_by_hand(self):
        heap = Heap(THREE, Laying(THREE, (1, 2, -1, 3)))
        zero, three, five = [heap.make_object(c) for c in (0, 3, 5)]
        self.assertEqual((zero, three, five), (0, 2, 7))
        heap.put_value(five, (2, 0), ("at", zero))
        heap.put_value(five, (3, 0), ("at", three))
        heap.put_value(three, (0, 0), ("at", three))
        heap.drop_object(zero)
        other, couples = heap.relaid_by(Laying(THREE, (-1, -2, 2, 1)))
        self.assertEqual(couples, ((2, 1), (7, 4)))
        self.assertEqual(other.cells, (("at", 1), ("head", 3), 0, 0, ("head", 5), ("at", 1), None))
        self.assertEqual(heap.cells[0], ("dropped", 0))
        self.assertEqual(heap.compact_cells(), ((2, 0), (7, 5)))
        self.assertEqual(heap.cells, (("head", 3), ("at", 0), None, 0, None, ("head", 5), 0, None, ("at", 0)))

    def test_what_a_property_returned_stays(self):
        heap = Heap(ROOTS, Laying(ROOTS, (1, 1, -1)))
        heap.make_object(0)
        kept = state(heap)
        heap.put_value(0, (0, 0), 5)
        heap.make_object(1)
        heap.drop_object(0)
        heap.compact_cells()
        self.assertEqual(kept, ((("head", 0), 0), (0,), (1, 0, 0)))


class LengthTest(unittest.TestCase):
    def test_length(self):
        rng = random.Random(703)
        for world in [THREE] + ringed_worlds(704, 40, 7, 5):
            laying = apart_laying(rng, world)
            heap = Heap(world, laying)
            made = [heap.make_object(rng.randrange(len(world))) for _ in range(rng.randint(0, 30))]
            for address in rng.sample(made, len(made) // 3):
                heap.drop_object(address)
            fields = sum(many * len(class_fields(world, c)) for c, many in enumerate(heap.counts))
            due = len(heap.addresses) + fields
            model_length = due + weighed_holes(world, laying, heap.counts)
            heap.compact_cells()
            self.assertEqual(len(heap.cells), model_length)
            least = least_holes(world, heap.counts)
            self.assertEqual(len(heap.relaid_by(least.laying)[0].cells), due + least.number)
            for _ in range(5):
                self.assertGreaterEqual(len(heap.relaid_by(apart_laying(rng, world))[0].cells), due + least.number)

    def test_many_objects(self):
        heap = Heap(TWELVE, Laying(TWELVE, list(range(1, 13))))
        made = [heap.make_object(c) for _ in range(99) for c in range(12)]
        for one, other in zip(made, made[1:]):
            heap.put_value(one, (0, 0), ("at", other))
        self.assertEqual(heap.reached_from(made[:1]), tuple(made))
        self.assertEqual(heap.counts, (99,) * 12)
        self.assertEqual(heap.sweep_rest(made[-5:]), tuple(made[:-5]))
        self.assertEqual(len(heap.compact_cells()), 5)
        self.assertEqual(told(heap.laying)["places"], tuple(range(1, 13)))


if __name__ == "__main__":
    unittest.main()

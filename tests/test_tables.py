"""[7.4], [7.5]: entries, table layings, and calls by the table."""

import random
import unittest

from headamid.definers import definer_of
from headamid.errors import BadName, NoClass, NoEntry, NoMethod, NotView, TwoAnswers
from headamid.layings import Laying, close_fault
from headamid.rings import OddRing, laid_world, ring_fault
from headamid.tables import (
    all_entries, call_by_table, entries_of, entry_field, entry_world, table_laid, table_row,
)
from headamid.worlds import World
from tests.samples import (
    DIAMOND, ONE, SAME, STRANGE, TWELVE, caught, definers_in, due_answers, entries_in, name_worlds, random_places,
    random_worlds, tie_row,
)

WORLDS = [ONE, DIAMOND] + name_worlds(1201, 150) + random_worlds(1202, 80, 8, 2, methods=True)
# Name 0 has three entries, met again in the heirs 3 and 4; class 3 has two answers for it.
MET = World([((), 1, (0, 4)), ((), 0, (0,)), ((), 0, (1, 0)), ((0, 1), 0, (1,)), ((2, 3), 2, (0,)), ((4,), 0, (5, 1))])
# The names of three roots, joined two by two, make an odd ring.
RINGED = World([((), 0, (2,)), ((), 0, (3,)), ((), 0, (4,)), ((0, 1), 0, ()), ((1, 2), 0, ()), ((0, 2), 0, ())])


def table_laying(world, places):
    return Laying(entry_world(world), places)


def has_unlike_names(world, places):
    """Whether some class has two entries of unlike names in one cell."""
    place = dict(zip(entries_in(world), places))
    return any(place[one] == place[other] and one[1] != other[1] for c in range(len(world))
               for one in entries_in(world, c) for other in entries_in(world, c))


class EntriesTest(unittest.TestCase):
    def test_all_classes_and_each(self):
        for world in WORLDS + [MET, RINGED, TWELVE]:
            self.assertEqual(all_entries(world), entries_in(world))
            for c in range(len(world)):
                self.assertEqual(entries_of(world, c), entries_in(world, c))
                self.assertEqual({type(item) for item in (entries_of(world, c), *entries_of(world, c))}, {tuple})

    def test_met_again(self):
        self.assertEqual(all_entries(MET), ((0, 0), (0, 4), (1, 0), (2, 0), (2, 1), (3, 1), (5, 5)))
        self.assertEqual(entries_of(MET, 3), ((0, 0), (0, 4), (1, 0), (3, 1)))
        self.assertEqual(entries_of(MET, 4), ((0, 0), (0, 4), (1, 0), (2, 0), (2, 1), (3, 1)))
        self.assertEqual(entries_of(MET, 5), all_entries(MET))
        chain = World([((), 0, (0,)), ((0,), 0, (0, 1)), ((1,), 0, (1, 0)), ((2, 0), 0, (2, 1, 0))])
        self.assertEqual(all_entries(chain), ((0, 0), (1, 1), (3, 2)))

    def test_entry_world(self):
        for world in WORLDS + [MET, RINGED]:
            longer = entry_world(world)
            entries = entries_in(world)
            self.assertEqual((longer.bases, longer.methods), (world.bases, ((),) * len(world)))
            self.assertEqual(longer.owns, tuple(len([k for k, _ in entries if k == c]) for c in range(len(world))))
            self.assertEqual([entry_field(world, list(entry)) for entry in entries], list(longer.all_fields))
            for entry in entries:
                own = sorted(name for k, name in entries if k == entry[0])
                self.assertEqual(entry_field(world, entry), (entry[0], own.index(entry[1])))
                self.assertIs(type(entry_field(world, entry)), tuple)

    def test_no_entry(self):
        things = STRANGE + ((0, 1), (3, 0), (4, 0), (5, 1), (False, 0), (0, False), (0.0, 0), (0, 4.0), (0, 0, 0),
                            (-6, 0), (6, 0), (0, "0"), "00", SAME, (SAME, 0), (0, SAME), ([0], 0))
        for thing in things:
            self.assertIs(caught(NoEntry, entry_field, MET, thing)["entry"], thing)
        for world in WORLDS[:60]:
            for c in range(len(world)):
                for name in range(6):
                    if (c, name) not in entries_in(world):
                        self.assertEqual(caught(NoEntry, entry_field, world, (c, name)), {"entry": (c, name)})

    def test_no_class(self):
        laying = table_laid(MET)
        for thing in (6, -1, True, False, 0.0, None, "0", (0,), SAME):
            self.assertIs(caught(NoClass, entries_of, MET, thing)["cls"], thing)
            self.assertIs(caught(NoClass, table_row, MET, laying, thing)["cls"], thing)


class LaidTest(unittest.TestCase):
    def test_as_the_entry_world_is_laid(self):
        rings = 0
        for world in WORLDS + [MET, RINGED]:
            found, due = table_laid(world), laid_world(entry_world(world))
            self.assertIs(type(found), type(due))
            if isinstance(due, OddRing):
                rings += 1
                self.assertEqual([tie_row(tie) for tie in found.ties], [tie_row(tie) for tie in due.ties])
                self.assertIsNone(ring_fault(entry_world(world), found))
            else:
                self.assertEqual(found, due)
                self.assertIsNone(close_fault(entry_world(world), found))
        self.assertGreater(rings, 3)

    def test_ring(self):
        found = table_laid(RINGED)
        self.assertIs(type(found), OddRing)
        self.assertEqual(sorted((tie.first, tie.second, tie.sense) for tie in found.ties), [
            ((0, 0), (1, 0), "unlike"), ((0, 0), (2, 0), "unlike"), ((1, 0), (2, 0), "unlike")])


class RowTest(unittest.TestCase):
    def test_rows_of_any_laying(self):
        rng = random.Random(1203)
        doubles = holes = 0
        for world in WORLDS + [MET, RINGED]:
            for farthest in (2, 4, 9):
                places = random_places(rng, len(entries_in(world)), farthest)
                place = dict(zip(entries_in(world), places))
                for c in range(len(world)):
                    mine = entries_in(world, c)
                    cells = [0] + [place[entry] for entry in mine]
                    due = []
                    for cell in range(min(cells), max(cells) + 1):
                        there = [entry for entry in mine if place[entry] == cell]
                        doubles += len(there) > 1
                        holes += cell != 0 and not there
                        due.append("head" if cell == 0 else tuple(
                            (entry, due_answers(world, c, definers_in(world, entry[1]))) for entry in there))
                    self.assertEqual(table_row(world, table_laying(world, places), c), tuple(due))
        self.assertGreater(min(doubles, holes), 100)

    def test_by_hand(self):
        laying = table_laying(MET, (1, -1, 1, 3, 1, -3, 4))
        self.assertEqual(table_row(MET, laying, 3), (
            (((3, 1), (3,)),), (), (((0, 4), (0,)),), "head", (((0, 0), (0, 1)), ((1, 0), (0, 1)))))
        row = table_row(MET, laying, 4)
        self.assertEqual(row[4], (((0, 0), (4,)), ((1, 0), (4,)), ((2, 1), (2, 3))))
        self.assertEqual(table_row(MET, laying, 1), ("head", (((1, 0), (1,)),)))
        self.assertEqual(table_row(ONE, table_laying(ONE, ()), 0), ("head",))
        kinds = {type(item) for cell in row for item in (cell, *(cell if isinstance(cell, tuple) else ()))}
        self.assertEqual(kinds, {tuple, str})


class CallTest(unittest.TestCase):
    def outcome(self, call, *things):
        """What a call returns or raises."""
        try:
            return call(*things)
        except (NoMethod, TwoAnswers) as error:
            return type(error), tuple(vars(error).values())

    def test_as_the_definer_where_names_do_not_share(self):
        rng = random.Random(1204)
        seen = {"definer": 0, "two": 0, "shared": 0, "ring": 0}
        for world in WORLDS + [MET, RINGED]:
            laid = table_laid(world)
            rows = [] if isinstance(laid, OddRing) else [laid.places]
            seen["ring"] += not rows
            for _ in range(12):
                rows.append(random_places(rng, len(entries_in(world)), rng.choice((2, 4, 40))))
            for places in [row for row in rows if not has_unlike_names(world, row)]:
                seen["shared"] += len(set(places)) < len(places)
                self.check_as_definer(world, table_laying(world, places), seen)
        self.assertGreater(min(seen.values()), 3)
        self.assertGreater(min(seen["definer"], seen["two"], seen["shared"]), 100)

    def check_as_definer(self, world, laying, seen):
        for c in range(len(world)):
            for view in (*world.elders[c], c):
                for name in {name for _, name in entries_in(world, view)}:
                    due = self.outcome(definer_of, world, c, name)
                    self.assertEqual(self.outcome(call_by_table, world, laying, view, c, name), due)
                    seen["two" if isinstance(due, tuple) else "definer"] += 1

    def test_where_unlike_names_share_a_cell(self):
        rng = random.Random(1205)
        other = 0
        for world in WORLDS + [MET]:
            places = random_places(rng, len(entries_in(world)), 2)
            place = dict(zip(entries_in(world), places))
            for c in range(len(world)):
                for view in (*world.elders[c], c):
                    for name in {name for _, name in entries_in(world, view)}:
                        first = min(entry for entry in entries_in(world, view) if entry[1] == name)
                        there = max(entry for entry in entries_in(world, c) if place[entry] == place[first])
                        due = self.outcome(definer_of, world, c, there[1])
                        found = self.outcome(call_by_table, world, table_laying(world, places), view, c, name)
                        self.assertEqual(found, due)
                        other += there[1] != name
        self.assertGreater(other, 100)

    def test_by_hand(self):
        laying = table_laying(MET, (1, -1, 2, 3, 1, -3, 2))
        self.assertEqual(caught(TwoAnswers, call_by_table, MET, laying, 0, 4, 0), {"cls": 4, "name": 1, "a": 2, "b": 3})
        self.assertEqual(call_by_table(MET, laying, 1, 4, 0), 4)
        self.assertEqual(call_by_table(MET, laying, 1, 5, 0), 5)
        self.assertEqual(call_by_table(MET, laying, 0, 5, 0), 5)
        self.assertEqual(caught(TwoAnswers, call_by_table, MET, laying, 3, 3, 0), {"cls": 3, "name": 0, "a": 0, "b": 1})

    def test_refused_in_order(self):
        laying = table_laid(MET)
        for thing in (6, -1, True, False, 0.0, None, "0", (0,), SAME):
            self.assertIs(caught(NoClass, call_by_table, MET, laying, thing, 99, 99)["cls"], thing)
            self.assertIs(caught(NoClass, call_by_table, MET, laying, 0, thing, 99)["cls"], thing)
        for thing in (6, -1, True, False, 0.0, None, "0", (0,), SAME):
            self.assertIs(caught(BadName, call_by_table, MET, laying, 3, 0, thing)["name"], thing)
        for view, c in ((1, 0), (3, 0), (2, 3), (5, 4)):
            for name in (0, 3):
                self.assertEqual(list(caught(NotView, call_by_table, MET, laying, view, c, name).items()),
                                 [("view", view), ("cls", c)])
        for view, c, name in ((0, 5, 1), (1, 4, 4), (2, 2, 3), (5, 5, 3), (4, 5, 5)):
            self.assertEqual(list(caught(NoMethod, call_by_table, MET, laying, view, c, name).items()),
                             [("cls", view), ("name", name)])


if __name__ == "__main__":
    unittest.main()

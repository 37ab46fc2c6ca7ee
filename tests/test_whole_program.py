"""What holds over the whole program: programs by name and by cells in worlds that the package lays itself, renamed
worlds, and two worlds side by side."""

import random
import unittest

from headamid.bycells import run_cells
from headamid.byname import run_names
from headamid.casts import first_unclear, must_share
from headamid.clearing import least_clear, missing_methods
from headamid.definers import two_answers
from headamid.edits import edited_all, undo_of
from headamid.floors import blocked_lots, fewest_holed, floor_of_holes
from headamid.holes import class_holes, least_holes
from headamid.ladders import apart_pairs, fewest_hues, floor_lot
from headamid.layings import Laying, apart_fault
from headamid.links import Links
from headamid.mends import find_mends, goals_met
from headamid.parting import parting_program
from headamid.partobjects import parts_of
from headamid.programs import Program
from headamid.rings import OddRing, count_layings, laid_world
from headamid.setups import Setup, setup_fault
from headamid.stretches import Bars, stretch_row
from headamid.tables import all_entries, table_laid
from headamid.ties import all_ties, bound_classes, pieces_of
from headamid.worlds import World
from tests.samples import (
    DIAMOND, EXAMPLE, drawn_steps, name_worlds, plain_world, random_edit, random_worlds, ringed_worlds, told,
)


def found_setup(world):
    """The setup of the laying, the table laying and the hues that the package finds, None without close layings."""
    laying, table = laid_world(world), table_laid(world)
    if isinstance(laying, OddRing) or isinstance(table, OddRing) or len(world) > 8:
        return None
    return Setup(world, laying, table.places, fewest_hues(world))


def drawn_order(rng, world):
    """An order of all classes in which each base comes ahead of its class."""
    order = []
    while len(order) < len(world):
        order.append(rng.choice([c for c in range(len(world)) if c not in order and set(world.bases[c]) <= set(order)]))
    return order


def renamed_step(step, news):
    """A step of a program with the new numbers of classes."""
    word = step[0]
    if word == "make":
        return word, news[step[1]], news[step[2]]
    if word in ("view", "take", "test"):
        return word, step[1], news[step[2]]
    if word in ("put", "get"):
        return (word, step[1], (news[step[2][0]], step[2][1])) + tuple(step[3:])
    return tuple(step)


class AlikeTest(unittest.TestCase):
    def check_alike(self, setup, program):
        one, other = run_names(setup.world, program), run_cells(setup, program)
        self.assertEqual(repr(told(one)), repr(told(other)))
        return one

    def worlds(self):
        return [DIAMOND, EXAMPLE] + name_worlds(2501, 60, 7, 2) + random_worlds(2502, 60, 8, 2, methods=True)

    def test_found_setups(self):
        rng = random.Random(2503)
        found = 0
        for world in self.worlds():
            setup = found_setup(world)
            if setup is not None:
                found += 1
                self.assertIsNone(setup_fault(setup))
                self.assertIsNone(parting_program(setup))
                for _ in range(4):
                    self.check_alike(setup, Program(world, drawn_steps(rng, world, 24)[0]))
        self.assertGreater(found, 60)

    def test_layings_with_the_fewest_holes(self):
        rng = random.Random(2504)
        for world in ringed_worlds(2505, 25, 7, 5):
            laying = least_holes(world, [1] * len(world)).laying
            self.assertIsNone(apart_fault(world, laying))
            setup = Setup(world, laying, (), fewest_hues(world))
            self.assertIsNone(parting_program(setup))
            self.check_alike(setup, Program(world, drawn_steps(rng, world, 24)[0]))

    def test_renamed_worlds(self):
        rng = random.Random(2506)
        found = 0
        for world in self.worlds():
            order = drawn_order(rng, world)
            other = world.renamed(order)
            setup = found_setup(world)
            self.assertEqual(setup is None, found_setup(other) is None)
            self.assertEqual(count_layings(other), count_layings(world))
            if setup is not None:
                found += 1
                news = {old: new for new, old in enumerate(order)}
                steps = drawn_steps(rng, world, 24)[0]
                run = self.check_alike(setup, Program(world, steps))
                later = self.check_alike(found_setup(other), Program(other, [renamed_step(s, news) for s in steps]))
                for one, two in zip(run.results, later.results):
                    self.check_result(one, two, news)
                self.assertEqual([news[c] for c, _ in run.objects], [c for c, _ in later.objects])
        self.assertGreater(found, 60)

    def check_result(self, one, two, news):
        if not isinstance(one, tuple):
            self.assertEqual(repr(one), repr(two))
        elif one[0] == "two":
            self.assertEqual(one[:2], two[:2])
        else:
            self.assertEqual((news[one[0]],) + one[1:], two)


def raised(row, by):
    """Couples of a class and something, with the class raised."""
    return tuple((c + by, *rest) for c, *rest in row)


class BesideTest(unittest.TestCase):
    def pairs(self, seed, most=6, most_fields=5):
        """Couples of worlds, with their methods, that have room side by side."""
        rng = random.Random(seed)
        rows = ringed_worlds(seed + 1, 80, most, most_fields) + [
            world for world in name_worlds(seed + 2, 60, most, 1) if len(world.all_fields) <= most_fields]
        rng.shuffle(rows)
        for one, other in zip(rows[::2], rows[1::2]):
            yield one, other, one.beside(other), len(one)

    def test_ties_and_layings(self):
        rings = 0
        for one, other, both, many in self.pairs(2511):
            def tie_rows(world, by):
                return [((t.first[0] + by, t.first[1]), (t.second[0] + by, t.second[1]), t.sense, t.a + by, t.b + by,
                         t.heir + by) for t in all_ties(world)]
            self.assertEqual(tie_rows(both, 0), tie_rows(one, 0) + tie_rows(other, many))
            self.assertEqual(pieces_of(both), pieces_of(one) + tuple(raised(piece, many) for piece in pieces_of(other)))
            self.assertEqual(bound_classes(both), bound_classes(one) + tuple(c + many for c in bound_classes(other)))
            self.assertEqual(count_layings(both), count_layings(one) * count_layings(other))
            rows = [laid_world(world) for world in (one, other, both)]
            if any(isinstance(row, OddRing) for row in rows):
                rings += 1
                self.assertIsInstance(rows[2], OddRing)
                self.assertEqual(len(rows[2].ties), min(len(row.ties) for row in rows if isinstance(row, OddRing)))
            else:
                self.assertEqual(rows[2].places, rows[0].places + rows[1].places)
        self.assertGreater(rings, 3)

    def test_hues_and_rows(self):
        for one, other, both, many in self.pairs(2521, 4, 4):
            self.assertEqual(apart_pairs(both), apart_pairs(one) + tuple((a + many, b + many) for a, b in apart_pairs(other)))
            self.assertEqual(fewest_hues(both), fewest_hues(one) + fewest_hues(other))
            lots = floor_lot(one), tuple(c + many for c in floor_lot(other))
            self.assertEqual(floor_lot(both), lots[1] if len(lots[1]) > len(lots[0]) else lots[0])
        rows = {True: 0, False: 0}
        for one, other, both, many in self.pairs(2522):
            if len(both) < 8:
                found = [not isinstance(stretch_row(world), Bars) for world in (one, other, both)]
                self.assertEqual(found[2], found[0] and found[1])
                rows[found[2]] += 1
                if found[2]:
                    self.assertEqual(stretch_row(both), stretch_row(one) + tuple(c + many for c in stretch_row(other)))
        self.assertGreater(rows[True], 5)

    def test_holes_and_floors(self):
        rng = random.Random(2531)
        for one, other, both, many in self.pairs(2532):
            if len(both.all_fields) > 7:
                continue
            weights = [rng.randint(0, 5) for _ in both]
            found = [least_holes(world, row) for world, row in (
                (one, weights[:many]), (other, weights[many:]), (both, weights))]
            self.assertEqual(found[2].number, found[0].number + found[1].number)
            joined = Laying(both, found[0].laying.places + found[1].laying.places)
            self.assertEqual(class_holes(both, joined), class_holes(one, found[0].laying) + class_holes(
                other, found[1].laying))

    def test_blocked_lots(self):
        three = plain_world([(), (), (), (0, 2, 1)], [1, 1, 1, 0])
        self.assertEqual(blocked_lots(three), ((0, 1, 2),))
        rng = random.Random(2541)
        smaller = [world for world in random_worlds(2542, 60, 2, 1)]
        for world in smaller:
            for one, other in ((three, world), (world, three), (world, rng.choice(smaller))):
                both, many = one.beside(other), len(one)
                self.assertEqual(blocked_lots(both), blocked_lots(one) + tuple(
                    tuple(c + many for c in lot) for lot in blocked_lots(other)))
                weights = [rng.randint(0, 5) for _ in both]
                for call in (fewest_holed, floor_of_holes):
                    self.assertEqual(call(both, weights).number,
                                     call(one, weights[:many]).number + call(other, weights[many:]).number)

    def test_links(self):
        unclear = 0
        for one, other, both, many in self.pairs(2551):
            self.assertEqual(must_share(both), must_share(one) + tuple((x + many, t + many) for x, t in must_share(other)))
            found = first_unclear(Links(both))
            rows = first_unclear(Links(one)), first_unclear(Links(other))
            if rows[0] is not None:
                self.assertEqual(told(found), told(rows[0]))
            elif rows[1] is not None:
                unclear += 1
                self.assertEqual(told(found), {key: tuple(c + many for c in way) for key, way in told(rows[1]).items()})
            else:
                self.assertIsNone(found)
            for c in range(len(other)):
                self.assertEqual([(part.way, part.place) for part in parts_of(Links(both), c + many)],
                                 [(tuple(k + many for k in part.way), part.place) for part in parts_of(Links(other), c)])
        self.assertGreater(unclear, 3)

    def test_methods(self):
        lacking = 0
        for one, other, both, many in self.pairs(2561):
            for call in (two_answers, missing_methods, all_entries):
                self.assertEqual(call(both), call(one) + raised(call(other), many))
            lacking += missing_methods(both) != ()
            lots = [tuple(range(0, len(world), 2)) for world in (one, other)]
            self.assertEqual(least_clear(both, lots[0] + tuple(c + many for c in lots[1])), least_clear(
                one, lots[0]) + tuple(c + many for c in least_clear(other, lots[1])))
            rows = [table_laid(world) for world in (one, other, both)]
            if any(isinstance(row, OddRing) for row in rows):
                self.assertIsInstance(rows[2], OddRing)
            else:
                self.assertEqual(rows[2].places, rows[0].places + rows[1].places)
            goals = ("close", "table", "clear")
            self.assertEqual(goals_met(both, goals), goals_met(one, goals) and goals_met(other, goals))
        self.assertGreater(lacking, 3)


class EditedTest(unittest.TestCase):
    def test_there_and_back(self):
        rng = random.Random(2571)
        for world in name_worlds(2572, 60, 8, 2):
            last, undos = world, []
            for _ in range(30):
                edit = random_edit(rng, last)
                try:
                    later = edited_all(last, [edit])
                except ValueError:
                    continue
                undos.append(undo_of(last, edit))
                last = later
            self.assertEqual(edited_all(last, undos[::-1]), world)

    def test_missing_methods_as_a_pool(self):
        tried = 0
        for world in name_worlds(2573, 200, 8, 1):
            pool = [("method", c, name) for c, name in missing_methods(world)]
            if 0 < len(pool) < 7 and all(len(world.methods[c]) + [k for _, k, _ in pool].count(c) < 4 for _, c, _ in pool):
                self.assertEqual(find_mends(world, pool, ["clear"]), (tuple(range(len(pool))),))
                tried += 1
        self.assertGreater(tried, 20)


if __name__ == "__main__":
    unittest.main()

"""The interface: names, arguments, kinds of things, and where each is defined."""

import importlib
import inspect
import unittest

from headamid.bench import Bench
from headamid.bycells import CellRun, ClassRow, Code, Machine
from headamid.byname import Run
from headamid.casts import Moving, NoWay, Several, Unclear
from headamid.declaring import Declaring
from headamid.floors import Floor, Holed
from headamid.heaps import Heap
from headamid.holes import Least
from headamid.kinds import Breach, KindRing, Kinds, Sides
from headamid.ladders import Clash, Ladders, Look
from headamid.lasting import Fleeting
from headamid.layings import Hole, Laying, Shared
from headamid.links import Links
from headamid.naming import NotLet, TwoKinds
from headamid.partobjects import Part
from headamid.programs import Program
from headamid.rings import OddRing
from headamid.setups import Setup, SetupFault
from headamid.staying import Moved
from headamid.stretches import Bars, Gap, StretchRow
from headamid.ties import Tie
from headamid.worlds import World

FUNCTIONS = {
    "wholes": "is_sequence(thing) is_whole(thing, low=None, high=None) is_order(thing, many)",
    "elders": "check_class(world, c) check_field(world, field) elders_of(world, c) heirs_of(world, c) "
              "common_heirs(world, a, b) is_kin(world, c, target) on_line(world, a, b) own_fields(world, c) "
              "fields_of(world, c)",
    "worldtext": "world_text(world) read_world(text)",
    "ties": "alone_fields(world, a, b) all_ties(world) base_ties(world) bound_classes(world) pieces_of(world)",
    "layings": "mirrored_laying(world, laying) extent_of(world, laying, c) cells_of(world, laying, c) "
               "close_fault(world, laying) apart_fault(world, laying) misfit_of(world, laying, bases)",
    "rings": "check_sides(world, sides) broken_tie(world, sides) laying_by(world, sides) laid_world(world) "
             "ring_fault(world, ring) count_layings(world) all_layings(world)",
    "placetext": "laying_text(laying) read_laying(world, text)",
    "kinds": "check_kind(kinds, kind) check_given(world, kinds, given) kept_fault(world, kinds, given) "
             "check_kind_sides(kinds, sides) side_clash(kinds, sides) kind_sides(kinds) side_rows(kinds) "
             "ring_fault_of(kinds, ring) threes_of(kinds) join_world(kinds, joins) ring_world(kinds, ring)",
    "declaring": "kinds_for(declaring, bases, fields) may_meet(declaring, a, b)",
    "lasting": "tie_to_come(world, kinds, given, c) lasting_fault(world, kinds, given, laying) "
               "count_lasting(world, kinds, given) go_on_from(world, kinds, given, laying)",
    "ladders": "check_hues(world, hues) hue_fault(world, hues) apart_pairs(world) fewest_hues(world) floor_lot(world)",
    "looks": "side_hues(world, kinds, given) declared_ladders(declaring) hue_meeting(declaring, hues) "
             "kind_hues(kinds) hues_by_kind(world, kinds, given) laying_hues(world, laying)",
    "stretches": "lot_of(world, c) row_fault(world, row) all_rows(world) stretch_row(world) is_barred(world, lot) "
                 "join_pair(kinds) star_world(kinds, one, other)",
    "holes": "check_weights(world, weights) class_reaches(world, laying) class_holes(world, laying) "
             "weighed_holes(world, laying, weights) pressed_laying(world, laying) "
             "least_split(world, weights, above) least_holes(world, weights)",
    "floors": "is_blocked(world, lot) blocked_lots(world) ring_lot(ring) fewest_holed(world, weights) "
              "floor_of_holes(world, weights)",
    "walks": "walk_left(world, laying, row) walk_right(world, laying, row)",
    "links": "flat_links(links) ways_between(links, c, target) check_way(links, way) cut_way(links, way)",
    "partobjects": "parts_of(links, c) size_of(links, c) copies_of(links, c, target) part_cells(links, c) "
                   "part_along(links, way) shift_along(links, way, at) holders_of(links, c, number)",
    "casts": "cast_place(links, c, target) ways_agree(links, first, second) first_unclear(links) must_share(world) "
             "steady_way(links, way) one_part(links, target)",
    "definers": "check_name(name) defining_of(world, c, name) answers_of(world, c, name) definer_of(world, c, name) "
                "two_answers(world) answers_to_come(world, bases, name) off_line(world, name)",
    "clearing": "lot_answers(world, lot, c) unclear_in(world, lot) least_clear(world, lot) missing_methods(world)",
    "tables": "all_entries(world) entries_of(world, c) entry_world(world) entry_field(world, entry) "
              "table_laid(world) table_row(world, laying, c) call_by_table(world, laying, view, c, name)",
    "naming": "check_lets(kinds, lets) lets_fault(world, kinds, given, lets) naming_fault(kinds, lets) "
              "naming_world(kinds, lets) table_kinds(kinds, lets) table_ring_world(kinds, lets)",
    "byname": "run_names(world, program) unlike_program(world, view, first, second)",
    "setups": "extends_setup(later, earlier) setup_fault(setup)",
    "bycells": "machine_of(setup) compile_program(setup, program) run_code(machine, code) run_cells(setup, program)",
    "parting": "parting_program(setup)",
    "edits": "edited_world(world, edit) edited_all(world, edits) undo_of(world, edit) moved_fields(laying, later)",
    "staying": "free_sides(world, laying, c) stayed_laying(world, laying, edit) least_moved(world, laying, edit)",
    "mends": "goals_met(world, goals) find_mends(world, pool, goals) find_spoilers(world, pool, goals) "
             "mend_fault(world, pool, goals, mend)",
}

# Each class with its module, its constructor's arguments, and its methods and properties.
CLASSES = (
    (World, "worlds", "(classes)", "all_fields with_class(bases, fields, methods) without_last() renamed(order) "
                                   "beside(other) __len__() __iter__() __eq__(other)"),
    (Tie, "ties", "(first, second, sense, a, b, heir)", ""),
    (Laying, "layings", "(world, places)", "place_of(field) side_words() __eq__(other)"),
    (Shared, "layings", "(cls, cell)", ""),
    (Hole, "layings", "(cls, cell)", ""),
    (OddRing, "rings", "(ties)", ""),
    (Kinds, "kinds", "(many, joined, bare=())", "are_joined(one, other) is_bare(kind) __eq__(other)"),
    (Breach, "kinds", "(cls, first, second, what)", ""),
    (Sides, "kinds", "(sides)", ""),
    (KindRing, "kinds", "(ring)", ""),
    (Declaring, "declaring", "(kinds, sides=None)", "world_now given_now places_now laying_now "
                                                    "declare(bases, fields, *, kind) __len__()"),
    (Fleeting, "lasting", "(what, first, second)", ""),
    (Ladders, "ladders", "(world, hues)", "ladder_of(c, hue) depth_of(target) one_look(c, target) clash_of(bases) "
                                          "with_class(bases, fields, methods, hue)"),
    (Clash, "ladders", "(cls, first, second)", ""),
    (Look, "ladders", "(hue, place, found, answer)", ""),
    (StretchRow, "stretches", "(world, row)", "span_test(c, target) free_gaps(bases) "
                                              "put_class(bases, fields, methods, gap)"),
    (Gap, "stretches", "(cls, between)", ""),
    (Bars, "stretches", "(classes)", ""),
    (Least, "holes", "(number, laying)", ""),
    (Holed, "floors", "(number, classes, laying)", ""),
    (Floor, "floors", "(number, lots)", ""),
    (Heap, "heaps", "(world, laying)", "cells addresses counts make_object(c) class_at(address) "
                                       "value_at(address, field) put_value(address, field, value) "
                                       "drop_object(address) reached_from(addresses) sweep_rest(addresses) "
                                       "relaid_by(laying) compact_cells()"),
    (Links, "links", "(world, shared=())", "all_links is_shared(c, base) with_shared(c, base) "
                                           "with_class(bases, fields, shared_bases=()) __eq__(other)"),
    (Part, "partobjects", "(way, place)", ""),
    (Unclear, "casts", "(first, second)", ""),
    (NoWay, "casts", "()", ""),
    (Moving, "casts", "(links, first, second)", ""),
    (Several, "casts", "(links, first, second)", ""),
    (NotLet, "naming", "(cls, name)", ""),
    (TwoKinds, "naming", "(name, first, second)", ""),
    (Program, "programs", "(world, steps)", ""),
    (Run, "byname", "(results, objects)", ""),
    (Setup, "setups", "(world, laying, table, hues)", ""),
    (SetupFault, "setups", "(what, cls, at)", ""),
    (ClassRow, "bycells", "(places, table, ladders)", ""),
    (Machine, "bycells", "(rows)", ""),
    (Code, "bycells", "(steps)", ""),
    (CellRun, "bycells", "(results, objects, looks)", ""),
    (Moved, "staying", "(number, laying)", ""),
    (Bench, "bench", "(world)", "world_now laying_now edits_made shifts make_edit(edit) take_back() "
                                "tried_edits(edits, goals)"),
)

GENERATORS = (("rings", "all_layings"), ("kinds", "side_rows"), ("stretches", "all_rows"), ("walks", "walk_left"),
              ("walks", "walk_right"), ("links", "ways_between"))
RESULTS = (Tie, Shared, Hole, OddRing, Breach, Sides, KindRing, Fleeting, Clash, Look, Gap, Bars, Least, Holed, Floor,
           Part, Unclear, NoWay, Moving, Several, NotLet, TwoKinds, Run, SetupFault, ClassRow, Machine, Code, CellRun,
           Moved)


def split_names(text):
    """The names of a row with the arguments of each, None where it has none in parentheses."""
    rows = []
    for part in text.replace(") ", ")\n").split("\n"):
        words = part.split("(", 1)
        for name in words[0].split()[:-1] if len(words) > 1 else words[0].split():
            rows.append((name, None))
        if len(words) > 1:
            rows.append((words[0].split()[-1], "(" + words[1]))
    return rows


class InterfaceTest(unittest.TestCase):
    def test_functions(self):
        for module, text in FUNCTIONS.items():
            found = importlib.import_module("headamid." + module)
            for name, arguments in split_names(text):
                function = getattr(found, name)
                self.assertTrue(inspect.isfunction(function), name)
                self.assertEqual(function.__module__, "headamid." + module)
                self.assertEqual(str(inspect.signature(function)), arguments, name)

    def test_generators(self):
        for module, name in GENERATORS:
            self.assertTrue(inspect.isgeneratorfunction(getattr(importlib.import_module("headamid." + module), name)))

    def test_classes(self):
        for cls, module, arguments, names in CLASSES:
            self.assertEqual(cls.__module__, "headamid." + module)
            self.assertEqual(str(inspect.signature(cls)), arguments, cls)
            for name, method_arguments in split_names(names):
                thing = vars(cls)[name]
                if method_arguments is None:
                    self.assertIsInstance(thing, property)
                else:
                    due = method_arguments.replace("(", "(self, ", 1).replace("(self, )", "(self)")
                    self.assertEqual(str(inspect.signature(thing)), due, name)
        self.assertEqual(str(inspect.signature(Kinds.in_ring)), "(many)")

    def test_results_hold_the_very_things(self):
        for cls in RESULTS:
            names = list(inspect.signature(cls).parameters)
            things = [[name] for name in names]
            result = cls(*things)
            self.assertEqual(list(vars(result)), names)
            for name, thing in zip(names, things):
                self.assertIs(getattr(result, name), thing)
            self.assertEqual(vars(cls(**dict(zip(names, things)))), vars(result))
            self.assertNotIsInstance(result, tuple)


if __name__ == "__main__":
    unittest.main()

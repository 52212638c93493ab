"""Every name of the interface stands in its module, with just its arguments."""

import importlib
import inspect
import unittest

FUNCTIONS = {
    "base.numbers": {
        "is_name": "(value)",
        "is_integer": "(value)",
        "slot_of": "(tick, interval)",
        "rounded_up": "(number, slot, interval)",
    },
    "source.trees": {
        "is_tree": "(value)",
        "is_statement": "(value)",
        "levels": "(tree)",
        "nodes": "(tree)",
        "is_operation": "(value)",
        "operation_at": "(name, path)",
        "path_of": "(operation)",
    },
    "memory.meetings": {
        "is_place": "(value)",
        "cell_of": "(place, number)",
        "is_meetings_paper": "(meetings, value)",
    },
    "memory.flows": {
        "flows": "(body, *, first=0, rounds=None)",
        "settled": "(body)",
        "writer_of": "(body, array, cell, *, rounds=None)",
        "found_by": "(body, load, number)",
    },
    "machine.shapes": {
        "is_shape": "(value)",
        "fits": "(shape, tree)",
        "holes": "(shape)",
        "loads": "(shape)",
        "write_shape": "(shape)",
        "read_shape": "(text)",
    },
    "machine.machines": {"is_pattern": "(value)"},
    "covers.covers": {
        "fitting": "(body, machine)",
        "wants": "(body, machine, node, name)",
        "is_cover": "(body, machine, value)",
        "cover_cost": "(body, machine, cover)",
        "cover_row": "(body, machine, cover)",
        "is_beginning": "(body, machine, value)",
        "open_nodes": "(body, machine, beginning)",
        "open_count": "(body, machine, beginning)",
        "open_cost": "(body, machine, beginning)",
        "is_table": "(body, machine, value)",
        "least_table": "(body, machine)",
        "cheapest": "(body, machine)",
        "cover_paper": "(body, machine)",
        "is_cover_paper": "(body, machine, value)",
        "cost_paper": "(body, machine, cost)",
        "is_cost_paper": "(body, machine, cost, value)",
    },
    "covers.orders": {
        "count_covers": "(body, machine)",
        "each_cover": "(body, machine)",
        "cover_at": "(body, machine, number)",
        "number_of": "(body, machine, cover)",
        "covers_by_cost": "(body, machine)",
        "cover_by_cost": "(body, machine, cost, number)",
        "margin": "(body, machine, node, name)",
        "pattern_margin": "(body, machine, name)",
        "hurried": "(body, machine, *, careful=False)",
        "behind": "(body, machine, *, careful=False)",
    },
    "jobs.runs": {
        "due": "(job, operation, number)",
        "found": "(job, interval, starts, rounds, operation, number)",
        "wrong_things": "(job, interval, starts, rounds)",
        "is_wrong_thing": "(job, interval, starts, rounds, value)",
        "least_wrong": "(job, interval, starts)",
        "is_right": "(job, interval, value)",
        "timed_run": "(job, interval, starts, rounds, meaning, first, contents)",
    },
    "jobs.orders": {
        "bound": "(body)",
        "reordered": "(body, names)",
        "order_paper": "(body, names)",
        "is_order_paper": "(body, names, value)",
        "how_many_orders": "(body)",
        "each_order": "(body)",
        "first_order": "(body)",
    },
    "jobs.rewrites": {
        "named": "(body, operation, name)",
        "named_operation": "(body, operation, name, other)",
        "inlined": "(body, name)",
        "keeps_findings": "(body, name)",
        "merged": "(job, operation, pattern)",
        "is_easy_merge": "(job, operation, pattern)",
    },
    "plans.plans": {
        "asked": "(job, interval, starts)",
        "spare": "(job, interval, starts)",
        "is_plan": "(job, interval, value)",
        "faults": "(job, interval, starts)",
        "length": "(job, starts)",
        "duration": "(job, interval, starts, rounds)",
        "earliest": "(job, interval, starts)",
        "straight": "(job, interval)",
    },
    "search.ways": {
        "way_paper": "(body, machine, interval, *, most=None)",
        "is_way_paper": "(body, machine, interval, value, *, most=None)",
        "has_way": "(body, machine, interval, *, most=None)",
    },
    "search.frontier": {
        "least_cost": "(body, machine, interval)",
        "least_interval": "(body, machine, *, most=None)",
        "frontier": "(body, machine)",
        "frontier_paper": "(body, machine)",
        "is_frontier_paper": "(body, machine, value)",
    },
    "files.lives": {"lives_of": "(job, interval, starts)"},
    "files.turning": {
        "is_bases": "(lives, registers, value)",
        "file_paper": "(lives, registers)",
        "is_file_paper": "(lives, registers, value)",
        "least_registers": "(lives)",
        "held": "(lives, registers, bases, tick)",
    },
    "few.making": {"points_of": "(job, interval, starts)"},
    "few.papers": {
        "relief_paper": "(points, registers, *, cells=24, most=None)",
        "is_relief_paper": "(points, registers, value, *, cells=24, most=None)",
        "least_moves": "(points, registers, *, cells=24)",
        "fewest_registers": "(points, *, cells=24, most=None)",
        "least_paper": "(points, registers, *, cells=24)",
        "is_least_paper": "(points, registers, value, *, cells=24)",
        "sure_lives": "(points, told)",
    },
    "code.making": {
        "kernel_of": "(job, interval, starts, registers, bases)",
        "kernel_with": "(job, interval, starts, registers, relief)",
    },
    "code.checks": {
        "findings": "(kernel, rounds, operation, number)",
        "wrong_findings": "(kernel, rounds)",
        "is_wrong_finding": "(kernel, rounds, value)",
        "long_readings": "(kernel)",
        "enough_rounds": "(kernel)",
        "does_right": "(kernel)",
        "least_wrong_run": "(kernel)",
    },
    "wide.bodies": {
        "peeled": "(body, rounds)",
        "unrolled": "(body, copies)",
        "peeled_job": "(job, rounds)",
        "unrolled_job": "(job, copies)",
        "copied_starts": "(job, interval, starts, copies)",
    },
    "wide.free": {
        "meeting_kind": "(store, load)",
        "wide_arcs": "(job, *, copies=1, first=0)",
        "lasting_arcs": "(job, *, copies=1)",
        "free_paper": "(job, interval, *, copies=1, first=0)",
        "is_free_paper": "(job, interval, value, *, copies=1, first=0)",
        "free_interval": "(job, *, copies=1, first=0)",
        "ratio": "(job, *, first=0)",
        "lasting_ratio": "(job)",
    },
    "wide.peels": {
        "peel_paper": "(job, interval, *, copies=1)",
        "is_peel_paper": "(job, interval, value, *, copies=1)",
        "ratio_paper": "(job)",
        "is_ratio_paper": "(job, value)",
    },
    "worlds.order": {
        "is_no_harder": "(body, machine, other_body, other_machine)",
        "left_to": "(body, row)",
        "trimmed": "(body, machine, interval, tree)",
    },
    "worlds.sums": {
        "are_side_by_side": "(body, value)",
        "together": "(body, other)",
        "units_used": "(body, machine)",
        "opened": "(interval, tree)",
        "joined": "(interval, tree, other)",
    },
}
CONSTANTS = {
    "base.numbers": {"MAX_INTERVAL": 32, "MAX_TICKS": 4},
    "source.bodies": {"MAX_NODES": 24},
    "machine.shapes": {"MAX_SHAPE": 4},
    "machine.machines": {"MAX_PATTERNS": 8, "MAX_UNITS": 4, "MAX_COST": 20},
    "jobs.orders": {"MAX_ORDERED": 12},
    "files.lives": {"MAX_KEYS": 48},
    "files.turning": {"MAX_FILE": 24},
    "few.points": {"MAX_VALUES": 24, "MAX_POINTS": 48},
    "few.papers": {"MAX_GAPS": 6},
    "code.instructions": {"MAX_STAGES": 64, "MAX_MOVES": 24},
    "wide.free": {"MAX_WIDE": 32},
}
METHODS = {
    ("source.bodies", "Body"): {
        "__init__": "(self, *statements)",
        "of": "(statements)",
        "__getitem__": "(self, at)",
        "__contains__": "(self, x)",
        "__len__": "(self)",
        "__iter__": "(self)",
        "__eq__": "(self, other)",
        "__str__": "(self)",
        "tree": "(self, operation)",
        "with_statement": "(self, statement, *, at=None)",
        "replaced": "(self, statement)",
        "without": "(self, *names)",
        "renamed": "(self, names, *, arrays=None)",
        "shifted": "(self, array, by)",
        "scaled": "(self, array, by)",
        "run": "(self, rounds, meaning, first, contents)",
    },
    ("memory.meetings", "Meetings"): {
        "__init__": "(self, place, other, *, low=0, high=None, first=0, rounds=None)",
        "__contains__": "(self, x)",
        "__bool__": "(self)",
        "each": "(self)",
        "__eq__": "(self, other)",
        "__str__": "(self)",
        "peeled": "(self, by)",
        "unrolled": "(self, copies, one, two)",
    },
    ("machine.machines", "Machine"): {
        "__init__": "(self, units, *patterns, save=(1, ()), reload=(1, ()))",
        "of": "(units, patterns, *, save=(1, ()), reload=(1, ()))",
        "from_lines": "(*lines)",
        "of_lines": "(lines)",
        "pattern": "(self, name)",
        "index_of": "(self, name)",
        "copies": "(self, unit)",
        "with_pattern": "(self, pattern, *, at=None)",
        "without_pattern": "(self, name)",
        "moved": "(self, name, at)",
        "with_cost": "(self, name, cost)",
        "with_units": "(self, units)",
        "with_moves": "(self, *, save=None, reload=None)",
        "renamed": "(self, names)",
        "__contains__": "(self, x)",
        "__len__": "(self)",
        "__iter__": "(self)",
        "__eq__": "(self, other)",
        "__str__": "(self)",
    },
    ("jobs.jobs", "Job"): {
        "__init__": "(self, body, machine, cover)",
        "ticks": "(self, operation)",
        "uses": "(self, operation)",
        "operands": "(self, operation)",
        "loaded": "(self, operation)",
        "above": "(self, operation)",
        "run": "(self, rounds, meaning, first, contents)",
        "__getitem__": "(self, at)",
        "__contains__": "(self, x)",
        "__len__": "(self)",
        "__iter__": "(self)",
        "__eq__": "(self, other)",
        "__str__": "(self)",
    },
    ("files.lives", "Lives"): {
        "__init__": "(self, interval, rows)",
        "alive": "(self, tick, *names)",
        "across": "(self, moment, *names)",
        "is_full": "(self, moment, *names)",
        "most_of": "(self, *names)",
        "is_apart": "(self, *names)",
        "each_alive": "(self, tick)",
        "__add__": "(self, other)",
        "__or__": "(self, other)",
        "__and__": "(self, other)",
        "turned": "(self)",
        "__getitem__": "(self, at)",
        "__contains__": "(self, x)",
        "__len__": "(self)",
        "__iter__": "(self)",
        "__eq__": "(self, other)",
        "__str__": "(self)",
    },
    ("few.points", "Points"): {
        "__init__": "(self, interval, rows, *, save=(1, ()), reload=(1, ()), spare=None)",
        "without_last": "(self, key)",
        "__add__": "(self, other)",
        "__getitem__": "(self, at)",
        "__contains__": "(self, x)",
        "__len__": "(self)",
        "__iter__": "(self)",
        "__eq__": "(self, other)",
        "__str__": "(self)",
    },
    ("few.moves", "Moves"): {
        "__init__": "(self, points, saves, reloads)",
        "kept": "(self, key, j)",
        "__contains__": "(self, x)",
        "__len__": "(self)",
        "__eq__": "(self, other)",
        "__str__": "(self)",
    },
    ("code.kernels", "Kernel"): {
        "__init__": "(self, job, interval, registers, cells, rows)",
        "of": "(job, interval, registers, cells, *rows)",
        "guards": "(self, rounds, number)",
        "timeline": "(self, rounds)",
        "duration": "(self, rounds)",
        "played": "(self, rounds, meaning, first, contents)",
        "later": "(self, ticks)",
        "rolled": "(self, *, registers=0, cells=0)",
        "__getitem__": "(self, at)",
        "__contains__": "(self, x)",
        "__len__": "(self)",
        "__iter__": "(self)",
        "__eq__": "(self, other)",
        "__str__": "(self)",
    },
}
PROPERTIES = {
    ("source.bodies", "Body"): "statements names scalars arrays operations loads stores reads",
    ("memory.meetings", "Meetings"): "place other low high first rounds nearest distance soonest latest amount paper",
    ("machine.machines", "Machine"): "units patterns names save reload lines",
    ("jobs.jobs", "Job"): "body machine cover operations arcs cost valued",
    ("files.lives", "Lives"): "interval rows names most total",
    ("few.points", "Points"): "interval rows save reload spare gaps",
    ("few.moves", "Moves"): "points saves reloads gone stays area asked fits",
    ("code.kernels", "Kernel"): "job interval registers cells rows starts stages moves asked",
}


def module(name):
    return importlib.import_module(f"loopfoundry.{name}")


class InterfaceTest(unittest.TestCase):
    def test_functions(self):
        for place, rows in FUNCTIONS.items():
            for name, signature in rows.items():
                function = vars(module(place))[name]
                self.assertTrue(inspect.isfunction(function), name)
                self.assertEqual(function.__module__, f"loopfoundry.{place}")
                self.assertEqual(str(inspect.signature(function)), signature, name)

    def test_constants(self):
        for place, rows in CONSTANTS.items():
            for name, value in rows.items():
                self.assertIs(type(vars(module(place))[name]), int)
                self.assertEqual(vars(module(place))[name], value)

    def test_methods(self):
        for (place, name), rows in METHODS.items():
            found = vars(module(place))[name]
            self.assertEqual(found.__module__, f"loopfoundry.{place}")
            for method, signature in rows.items():
                self.assertIn(method, vars(found), (name, method))
                self.assertEqual(str(inspect.signature(getattr(found, method))), signature, (name, method))
            for method in ("of", "from_lines", "of_lines"):
                if method in rows:
                    self.assertIsInstance(vars(found)[method], classmethod)

    def test_properties(self):
        for (place, name), names in PROPERTIES.items():
            found = vars(module(place))[name]
            for word in names.split():
                self.assertIsInstance(vars(found)[word], property, (name, word))


if __name__ == "__main__":
    unittest.main()

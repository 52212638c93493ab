"""Every name of the interface stands in its module, with just its arguments."""

import importlib
import inspect
import unittest

FUNCTIONS = {
    "base.numbers": {
        "is_name": "(value)",
        "is_integer": "(value)",
        "slot_of": "(tick, interval)",
        "rounded_up": "(number, slot, interval)",
    },
    "source.trees": {
        "is_tree": "(value)",
        "is_statement": "(value)",
        "levels": "(tree)",
        "nodes": "(tree)",
        "is_operation": "(value)",
        "operation_at": "(name, path)",
        "path_of": "(operation)",
    },
    "memory.meetings": {
        "is_place": "(value)",
        "cell_of": "(place, number)",
        "is_meetings_paper": "(meetings, value)",
    },
    "memory.flows": {
        "flows": "(body, *, first=0, rounds=None)",
        "settled": "(body)",
        "writer_of": "(body, array, cell, *, rounds=None)",
        "found_by": "(body, load, number)",
    },
    "machine.shapes": {
        "is_shape": "(value)",
        "fits": "(shape, tree)",
        "holes": "(shape)",
        "loads": "(shape)",
        "write_shape": "(shape)",
        "read_shape": "(text)",
    },
    "machine.machines": {"is_pattern": "(value)"},
    "covers.covers": {
        "fitting": "(body, machine)",
        "wants": "(body, machine, node, name)",
        "is_cover": "(body, machine, value)",
        "cover_cost": "(body, machine, cover)",
        "cover_row": "(body, machine, cover)",
        "is_beginning": "(body, machine, value)",
        "open_nodes": "(body, machine, beginning)",
        "open_count": "(body, machine, beginning)",
        "open_cost": "(body, machine, beginning)",
        "is_table": "(body, machine, value)",
        "least_table": "(body, machine)",
        "cheapest": "(body, machine)",
        "cover_paper": "(body, machine)",
        "is_cover_paper": "(body, machine, value)",
        "cost_paper": "(body, machine, cost)",
        "is_cost_paper": "(body, machine, cost, value)",
    },
    "covers.orders": {
        "count_covers": "(body, machine)",
        "each_cover": "(body, machine)",
        "cover_at": "(body, machine, number)",
        "number_of": "(body, machine, cover)",
        "covers_by_cost": "(body, machine)",
        "cover_by_cost": "(body, machine, cost, number)",
        "margin": "(body, machine, node, name)",
        "pattern_margin": "(body, machine, name)",
        "hurried": "(body, machine, *, careful=False)",
        "behind": "(body, machine, *, careful=False)",
    },
}
CONSTANTS = {
    "base.numbers": {"MAX_INTERVAL": 32, "MAX_TICKS": 4},
    "source.bodies": {"MAX_NODES": 24},
    "machine.shapes": {"MAX_SHAPE": 4},
    "machine.machines": {"MAX_PATTERNS": 8, "MAX_UNITS": 4, "MAX_COST": 20},
}
METHODS = {
    ("source.bodies", "Body"): {
        "__init__": "(self, *statements)",
        "of": "(statements)",
        "__getitem__": "(self, at)",
        "__contains__": "(self, x)",
        "__len__": "(self)",
        "__iter__": "(self)",
        "__eq__": "(self, other)",
        "__str__": "(self)",
        "tree": "(self, operation)",
        "with_statement": "(self, statement, *, at=None)",
        "replaced": "(self, statement)",
        "without": "(self, *names)",
        "renamed": "(self, names, *, arrays=None)",
        "shifted": "(self, array, by)",
        "scaled": "(self, array, by)",
        "run": "(self, rounds, meaning, first, contents)",
    },
    ("memory.meetings", "Meetings"): {
        "__init__": "(self, place, other, *, low=0, high=None, first=0, rounds=None)",
        "__contains__": "(self, x)",
        "__bool__": "(self)",
        "each": "(self)",
        "__eq__": "(self, other)",
        "__str__": "(self)",
        "peeled": "(self, by)",
        "unrolled": "(self, copies, one, two)",
    },
    ("machine.machines", "Machine"): {
        "__init__": "(self, units, *patterns, save=(1, ()), reload=(1, ()))",
        "of": "(units, patterns, *, save=(1, ()), reload=(1, ()))",
        "from_lines": "(*lines)",
        "of_lines": "(lines)",
        "pattern": "(self, name)",
        "index_of": "(self, name)",
        "copies": "(self, unit)",
        "with_pattern": "(self, pattern, *, at=None)",
        "without_pattern": "(self, name)",
        "moved": "(self, name, at)",
        "with_cost": "(self, name, cost)",
        "with_units": "(self, units)",
        "with_moves": "(self, *, save=None, reload=None)",
        "renamed": "(self, names)",
        "__contains__": "(self, x)",
        "__len__": "(self)",
        "__iter__": "(self)",
        "__eq__": "(self, other)",
        "__str__": "(self)",
    },
}
PROPERTIES = {
    ("source.bodies", "Body"): "statements names scalars arrays operations loads stores reads",
    ("memory.meetings", "Meetings"): "place other low high first rounds nearest distance soonest latest amount paper",
    ("machine.machines", "Machine"): "units patterns names save reload lines",
}


def module(name):
    return importlib.import_module(f"loopfoundry.{name}")


class InterfaceTest(unittest.TestCase):
    def test_functions(self):
        for place, rows in FUNCTIONS.items():
            for name, signature in rows.items():
                function = vars(module(place))[name]
                self.assertTrue(inspect.isfunction(function), name)
                self.assertEqual(function.__module__, f"loopfoundry.{place}")
                self.assertEqual(str(inspect.signature(function)), signature, name)

    def test_constants(self):
        for place, rows in CONSTANTS.items():
            for name, value in rows.items():
                self.assertIs(type(vars(module(place))[name]), int)
                self.assertEqual(vars(module(place))[name], value)

    def test_methods(self):
        for (place, name), rows in METHODS.items():
            found = vars(module(place))[name]
            self.assertEqual(found.__module__, f"loopfoundry.{place}")
            for method, signature in rows.items():
                self.assertIn(method, vars(found), (name, method))
                self.assertEqual(str(inspect.signature(getattr(found, method))), signature, (name, method))
            for method in ("of", "from_lines", "of_lines"):
                if method in rows:
                    self.assertIsInstance(vars(found)[method], classmethod)

    def test_properties(self):
        for (place, name), names in PROPERTIES.items():
            found = vars(module(place))[name]
            for word in names.split():
                self.assertIsInstance(vars(found)[word], property, (name, word))


if __name__ == "__main__":
    unittest.main()

"""The folder of the package, and the names and parameters of the document's interface [8]."""

import importlib
import inspect
import os
import unittest

ROOT = os.path.dirname(os.path.dirname(os.path.abspath(__file__)))
PACKAGE = os.path.join(ROOT, "everyzone")

FUNCTIONS = {
    "words": {
        "is_integer": "(value, low, high)",
        "is_name": "(value)",
        "is_time": "(value)",
        "day_of": "(reading)",
        "time_of": "(reading)",
        "reading_of": "(day, time)",
        "time_text": "(time)",
        "time_from": "(text)",
    },
    "zones": {"unlike_at": "(one, other)"},
    "kinds": {"zone_with": "(offset, steps)", "outside": "(one, other)"},
    "running": {
        "run": "(program, zone, start)",
        "values": "(program, zone, start)",
        "met": "(program, zone, start)",
    },
    "bounds": {
        "settle": "(bounds)",
        "holds": "(bounds, values)",
        "shows_ring": "(bounds, ring)",
        "tightest": "(bounds, x, y)",
    },
    "cases": {
        "cases": "(program, kind)",
        "meets": "(case, zone, start)",
        "answers_in": "(case, time)",
        "is_case": "(value)",
    },
    "outcomes": {
        "values_of": "(program, kind, index)",
        "showing": "(program, kind, index, value)",
        "least": "(program, kind, index)",
        "greatest": "(program, kind, index)",
        "sure": "(program, kind)",
        "together": "(program, kind, values)",
    },
    "faults": {
        "faults": "(program, kind)",
        "meeting": "(program, kind, index, word)",
        "failing": "(program, kind)",
        "failing_lines": "(program, kind)",
        "most_faults": "(program, kind)",
    },
    "daily": {
        "daily": "(zone, time, rule, day)",
        "daily_list": "(zone, time, rule, day, many)",
        "touched_days": "(zone, time)",
        "spans": "(kind, rule, days)",
        "span_shown": "(kind, rule, days, span)",
        "most_touched": "(kind, days, word=None)",
    },
    "comparing": {
        "parting": "(one, other, kind)",
        "alike": "(one, other, kind)",
        "needless": "(program, kind)",
        "safe_rules": "(program, kind, index)",
    },
    "logs": {
        "fits": "(zone, log)",
        "fitting": "(kind, log)",
        "shortest_clash": "(kind, log)",
        "offsets_at": "(kind, log, moment)",
        "fitting_with": "(kind, log, moment, offset)",
        "changes_between": "(kind, log)",
        "change_stretches": "(kind, log)",
    },
    "texts": {
        "kind_text": "(kind)",
        "zone_text": "(zone)",
        "case_text": "(case)",
        "kind_of_text": "(text)",
        "zone_of_text": "(text)",
    },
}

METHODS = {
    ("zones", "Zone"): {
        "__init__": "(self, offset, changes=())",
        "changes": "(self)",
        "jump_list": "(self)",
        "__len__": "(self)",
        "__contains__": "(self, x)",
        "__eq__": "(self, other)",
        "offset_at": "(self, moment)",
        "read": "(self, moment)",
        "moments_of": "(self, reading)",
        "gaps": "(self)",
        "folds": "(self)",
        "place": "(self, reading, rule)",
        "moved": "(self, minutes)",
        "raised": "(self, minutes)",
        "until": "(self, moment)",
        "since": "(self, moment)",
    },
    ("kinds", "Kind"): {
        "__init__": "(self, jumps, apart, most=2)",
        "__contains__": "(self, x)",
        "__eq__": "(self, other)",
        "has": "(self, zone)",
        "why_not": "(self, zone)",
    },
    ("programs", "Program"): {
        "__init__": "(self, text)",
        "lines": "(self)",
        "answers": "(self)",
        "__len__": "(self)",
        "__contains__": "(self, x)",
        "__eq__": "(self, other)",
        "__str__": "(self)",
        "kind_of": "(self, name)",
        "reach": "(self)",
    },
    ("session", "Session"): {
        "__init__": "(self, kind, program=None)",
        "kind": "(self)",
        "program": "(self)",
        "text": "(self)",
        "done": "(self)",
        "__len__": "(self)",
        "say": "(self, line)",
        "say_all": "(self, lines)",
    },
}

PROPERTIES = {
    ("zones", "Zone"): ["first"],
    ("kinds", "Kind"): ["jumps", "apart", "most"],
    ("programs", "Program"): ["low", "high"],
}


class Folder(unittest.TestCase):
    def test_only_files_of_python(self):
        for folder, folders, files in os.walk(PACKAGE):
            self.assertEqual([name for name in folders if name != "__pycache__"], [])
            if os.path.basename(folder) != "__pycache__":
                self.assertEqual([name for name in files if not name.endswith(".py")], [])
                self.assertIn("__init__.py", files)
                self.assertEqual([name for name in files if name.startswith("test")], [])


class Interface(unittest.TestCase):
    def test_functions_are_defined_in_their_files(self):
        for file, functions in FUNCTIONS.items():
            module = importlib.import_module(f"everyzone.{file}")
            for name, parameters in functions.items():
                function = getattr(module, name)
                self.assertTrue(inspect.isfunction(function), name)
                self.assertEqual(function.__module__, f"everyzone.{file}", name)
                self.assertEqual(str(inspect.signature(function)), parameters, name)

    def test_methods_are_defined_in_their_classes(self):
        for (file, name), methods in METHODS.items():
            made = getattr(importlib.import_module(f"everyzone.{file}"), name)
            self.assertEqual(made.__module__, f"everyzone.{file}", name)
            for method, parameters in methods.items():
                self.assertIn(method, vars(made))
                self.assertEqual(str(inspect.signature(vars(made)[method])), parameters, method)

    def test_properties_are_defined_in_their_classes(self):
        for (file, name), properties in PROPERTIES.items():
            made = getattr(importlib.import_module(f"everyzone.{file}"), name)
            for one in properties:
                self.assertIsInstance(vars(made)[one], property)


if __name__ == "__main__":
    unittest.main()

"""The interface of DOC.md: what is defined where."""

import importlib
import inspect
import unittest

CLASSES = {
    "errors": {name: () for name in (
        "MeterError", "BadRatio", "Short", "BadMany", "BadBench", "NoMeter", "NoLoad", "LastMeter", "BadSpread",
        "BadSetting", "BadStep", "BadSteps", "TooMany", "BadLog", "NoFit", "Unlike", "BadOffers", "BadHopes", "NotNow",
        "Hunting", "BadSource", "NothingToUndo", "NothingToRedo", "NoTrial", "BadJournal", "BadLine",
    )},
    "sources": {"Source": ("at", "under")},
    "benches": {"Bench": ("load", "without", "spread_by")},
}

# The functions by their files, each with the names of its arguments.
FUNCTIONS = {
    "stepping": {
        "draw": "bench setting", "reads": "bench setting source", "shown": "bench setting source",
        "steps": "bench setting source", "after": "bench setting step", "turned": "bench setting load",
        "walked": "bench setting source row",
    },
    "resting": {
        "reached": "bench setting source", "rests": "bench setting source", "ring": "bench setting source",
        "shows_ring": "bench setting source value",
    },
    "classes": {
        "lines": "bench", "line_up": "bench source", "classes": "bench", "samples": "bench",
        "shows_samples": "bench value",
    },
    "always": {
        "calm": "bench setting", "shows_calm": "bench setting value",
        "comes": "bench setting goal", "shows_comes": "bench setting goal value",
        "alone": "bench setting", "shows_alone": "bench setting value",
        "keeps": "bench setting", "shows_keeps": "bench setting value",
    },
}


class Interface(unittest.TestCase):

    def test_classes_stand_in_their_files(self):
        for file, classes in CLASSES.items():
            module = importlib.import_module(f"rangehunt.{file}")
            for name in classes:
                with self.subTest(file=file, name=name):
                    found = getattr(module, name)
                    self.assertIsInstance(found, type)
                    self.assertEqual((found.__module__, found.__qualname__), (module.__name__, name))

    def test_methods_stand_in_their_classes(self):
        for file, classes in CLASSES.items():
            module = importlib.import_module(f"rangehunt.{file}")
            for name, methods in classes.items():
                for method in methods:
                    with self.subTest(name=name, method=method):
                        self.assertTrue(callable(vars(getattr(module, name)).get(method)))

    def test_functions_stand_in_their_files(self):
        for file, functions in FUNCTIONS.items():
            module = importlib.import_module(f"rangehunt.{file}")
            for name, arguments in functions.items():
                with self.subTest(file=file, name=name):
                    found = getattr(module, name)
                    self.assertTrue(inspect.isfunction(found))
                    self.assertEqual((found.__module__, found.__qualname__), (module.__name__, name))
                    told = inspect.signature(found).parameters
                    self.assertEqual(list(told), arguments.split())
                    for argument in told.values():
                        self.assertEqual((argument.kind, argument.default), (argument.POSITIONAL_OR_KEYWORD, argument.empty))

    def test_attributes_are_there(self):
        source = importlib.import_module("rangehunt.sources").Source((1, 1), (0, 1))
        bench = importlib.import_module("rangehunt.benches").Bench("meter m\n  range a load 1 unit 1")
        for name in ("volts", "ohms"):
            self.assertTrue(hasattr(source, name), name)
        for name in ("text", "meters", "loads", "spread", "settings", "first"):
            self.assertTrue(hasattr(bench, name), name)


if __name__ == "__main__":
    unittest.main()

"""The interface of DOC.md: what is defined where."""

import importlib
import unittest

CLASSES = {
    "errors": {name: () for name in (
        "MeterError", "BadRatio", "Short", "BadMany", "BadBench", "NoMeter", "NoLoad", "LastMeter", "BadSpread",
        "BadSetting", "BadStep", "BadSteps", "TooMany", "BadLog", "NoFit", "Unlike", "BadOffers", "BadHopes", "NotNow",
        "Hunting", "BadSource", "NothingToUndo", "NothingToRedo", "NoTrial", "BadJournal", "BadLine",
    )},
    "sources": {"Source": ("at", "under")},
    "benches": {"Bench": ("load", "without", "spread_by")},
}


class Interface(unittest.TestCase):

    def test_classes_stand_in_their_files(self):
        for file, classes in CLASSES.items():
            module = importlib.import_module(f"rangehunt.{file}")
            for name in classes:
                with self.subTest(file=file, name=name):
                    found = getattr(module, name)
                    self.assertIsInstance(found, type)
                    self.assertEqual((found.__module__, found.__qualname__), (module.__name__, name))

    def test_methods_stand_in_their_classes(self):
        for file, classes in CLASSES.items():
            module = importlib.import_module(f"rangehunt.{file}")
            for name, methods in classes.items():
                for method in methods:
                    with self.subTest(name=name, method=method):
                        self.assertTrue(callable(vars(getattr(module, name)).get(method)))

    def test_attributes_are_there(self):
        source = importlib.import_module("rangehunt.sources").Source((1, 1), (0, 1))
        bench = importlib.import_module("rangehunt.benches").Bench("meter m\n  range a load 1 unit 1")
        for name in ("volts", "ohms"):
            self.assertTrue(hasattr(source, name), name)
        for name in ("text", "meters", "loads", "spread", "settings", "first"):
            self.assertTrue(hasattr(bench, name), name)


if __name__ == "__main__":
    unittest.main()

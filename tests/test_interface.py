"""The interface of DOC.md: what is defined where."""

import importlib
import inspect
import unittest

CLASSES = {
    "errors": {name: () for name in (
        "MeterError", "BadRatio", "Short", "BadMany", "BadBench", "NoMeter", "NoLoad", "LastMeter", "BadSpread",
        "BadSetting", "BadStep", "BadSteps", "TooMany", "BadLog", "NoFit", "Unlike", "BadOffers", "BadHopes", "NotNow",
        "Hunting", "BadSource", "NothingToUndo", "NothingToRedo", "NoTrial", "BadJournal", "BadLine",
    )},
    "sources": {"Source": ("at", "under")},
    "benches": {"Bench": ("load", "without", "spread_by")},
    "tables": {"Table": (
        "step", "hand", "settle", "stand", "known", "undo", "redo", "trial", "keep", "tried", "copy",
    )},
    "desk": {"Desk": ("say",)},
}

# The methods with the names of their arguments, behind that of the object.
METHODS = {
    "Source": {"__init__": "volts ohms", "at": "load", "under": "load"},
    "Bench": {"__init__": "text", "load": "name", "without": "meter", "spread_by": "many"},
    "Table": {
        "__init__": "bench source", "step": "meter way", "hand": "load", "settle": "", "stand": "source", "known": "", "undo": "",
        "redo": "", "trial": "", "keep": "", "tried": "look", "copy": "",
    },
    "Desk": {"__init__": "text", "say": "line"},
}

# The functions by their files, each with the names of its arguments.
FUNCTIONS = {
    "stepping": {
        "draw": "bench setting", "reads": "bench setting source", "shown": "bench setting source",
        "steps": "bench setting source", "after": "bench setting step", "turned": "bench setting load",
        "walked": "bench setting source row",
    },
    "resting": {
        "reached": "bench setting source", "rests": "bench setting source", "ring": "bench setting source",
        "shows_ring": "bench setting source value",
    },
    "classes": {
        "lines": "bench", "line_up": "bench source", "classes": "bench", "samples": "bench",
        "shows_samples": "bench value",
    },
    "always": {
        "calm": "bench setting", "shows_calm": "bench setting value",
        "comes": "bench setting goal", "shows_comes": "bench setting goal value",
        "alone": "bench setting", "shows_alone": "bench setting value",
        "keeps": "bench setting", "shows_keeps": "bench setting value",
    },
    "spreading": {"least_spread": "bench setting", "shows_spread": "bench setting value"},
    "logs": {
        "conditions": "bench log", "fits": "bench log", "shows_fits": "bench log value", "extent": "bench log",
        "between": "bench log setting",
    },
    "beside": {"alike": "one other setting", "shows_alike": "one other setting value"},
    "changing": {"cheapest": "bench offers hopes", "shows_cheapest": "bench offers hopes value"},
    "journals": {"journal": "table", "read_journal": "text"},
}


class Interface(unittest.TestCase):

    def test_classes_stand_in_their_files(self):
        for file, classes in CLASSES.items():
            module = importlib.import_module(f"rangehunt.{file}")
            for name in classes:
                with self.subTest(file=file, name=name):
                    found = getattr(module, name)
                    self.assertIsInstance(found, type)
                    self.assertEqual((found.__module__, found.__qualname__), (module.__name__, name))

    def test_methods_stand_in_their_classes(self):
        for file, classes in CLASSES.items():
            module = importlib.import_module(f"rangehunt.{file}")
            for name, methods in classes.items():
                for method in methods:
                    with self.subTest(name=name, method=method):
                        self.assertTrue(callable(vars(getattr(module, name)).get(method)))

    def test_arguments_of_methods(self):
        for file, classes in CLASSES.items():
            module = importlib.import_module(f"rangehunt.{file}")
            for name in classes if file != "errors" else ():
                for method, arguments in METHODS[name].items():
                    with self.subTest(name=name, method=method):
                        told = list(inspect.signature(getattr(getattr(module, name), method)).parameters.values())[1:]
                        plain = [argument.name for argument in told if argument.kind == argument.POSITIONAL_OR_KEYWORD]
                        self.assertEqual(plain, arguments.split())
                        others = [(argument.name, argument.kind, argument.default) for argument in told if argument.name not in plain]
                        wanted = [("keep", inspect.Parameter.KEYWORD_ONLY, False)] if method == "tried" else []
                        self.assertEqual(others, wanted)

    def test_functions_stand_in_their_files(self):
        for file, functions in FUNCTIONS.items():
            module = importlib.import_module(f"rangehunt.{file}")
            for name, arguments in functions.items():
                with self.subTest(file=file, name=name):
                    found = getattr(module, name)
                    self.assertTrue(inspect.isfunction(found))
                    self.assertEqual((found.__module__, found.__qualname__), (module.__name__, name))
                    told = inspect.signature(found).parameters
                    self.assertEqual(list(told), arguments.split())
                    for argument in told.values():
                        self.assertEqual((argument.kind, argument.default), (argument.POSITIONAL_OR_KEYWORD, argument.empty))

    def test_attributes_are_there(self):
        source = importlib.import_module("rangehunt.sources").Source((1, 1), (0, 1))
        bench = importlib.import_module("rangehunt.benches").Bench("meter m\n  range a load 1 unit 1")
        table = importlib.import_module("rangehunt.tables").Table(bench, source)
        desk = importlib.import_module("rangehunt.desk").Desk("meter m\n  range a load 1 unit 1\nsource 1 1")
        for name in ("bench", "source", "setting", "figures", "done", "log"):
            self.assertTrue(hasattr(table, name), name)
        self.assertTrue(hasattr(desk, "table"))
        for name in ("volts", "ohms"):
            self.assertTrue(hasattr(source, name), name)
        for name in ("text", "meters", "loads", "spread", "settings", "first"):
            self.assertTrue(hasattr(bench, name), name)


if __name__ == "__main__":
    unittest.main()

import importlib
import inspect
import unittest
from pathlib import Path

from helper import CLASSES, INTERFACE

PACKAGE = Path(__file__).resolve().parent.parent / "eachcut"


class TestInterface(unittest.TestCase):
    def test_names_and_parameters(self):
        for module, functions in INTERFACE.items():
            for name, parameters in functions.items():
                function = getattr(importlib.import_module(module), name)
                self.assertEqual(parameters, tuple(inspect.signature(function).parameters), name)
                self.assertEqual(module, function.__module__, name)

    def test_classes(self):
        for kind, methods in CLASSES.items():
            self.assertEqual(1, len(inspect.signature(kind.__init__).parameters))
            for name, parameters in methods.items():
                function = vars(kind)[name]
                self.assertEqual(("self",) + parameters, tuple(inspect.signature(function).parameters), name)
        self.assertEqual(["eachcut.engine", "eachcut.benches"], [kind.__module__ for kind in CLASSES])


class TestSizes(unittest.TestCase):
    """The sizes and characters that the package's files may have."""

    def test_files(self):
        for path in sorted(PACKAGE.rglob("*.py")):
            text = path.read_text(encoding="utf-8")
            self.assertEqual([], [sign for sign in text if sign != "\n" and not " " <= sign <= "~"], path)
            lines = text.split("\n")
            self.assertLessEqual(len(lines), 400, path)
            self.assertLessEqual(max(len(line) for line in lines), 120, path)

    def test_functions(self):
        for path in sorted(PACKAGE.rglob("*.py")):
            module = importlib.import_module("eachcut." + path.stem) if path.stem != "__init__" else None
            for name, value in vars(module).items() if module else ():
                self.check_length(name, value)

    def check_length(self, name, value):
        if inspect.isfunction(value):
            self.assertLessEqual(len(inspect.getsource(value).rstrip("\n").split("\n")), 40, name)
        if inspect.isclass(value):
            for inner, part in vars(value).items():
                if inspect.isfunction(part):
                    self.check_length(inner, part)


if __name__ == "__main__":
    unittest.main()

"""[24]: the names of the interface, where each is defined, and which file draws from which."""

import ast
import importlib
import inspect
import pathlib
import unittest

from helper import CLASSES, ERRORS, INTERFACE

FOLDER = pathlib.Path(__file__).resolve().parent.parent / "lockstold"
# Each private file stands behind the one of its key.
PRIVATE = {"errors": ["plain"], "wishes": ["search"], "shelves": ["footing"],
           "tellings": ["checks", "loom", "rowsets", "families"], "woven": ["lent"], "judge": ["words"]}
ORDER = [own for file in ["errors"] + list(INTERFACE) for own in [file] + PRIVATE.get(file, [])]


def imported_files(path):
    """The names of the package's files from which this one draws."""
    found = []
    for node in ast.walk(ast.parse(path.read_text(encoding="ascii"))):
        if isinstance(node, ast.ImportFrom) and node.module.startswith("lockstold."):
            found.append(node.module.split(".")[1])
    return found


class InterfaceTest(unittest.TestCase):

    def test_each_function_is_there_with_its_parameters(self):
        for file, functions in INTERFACE.items():
            module = importlib.import_module("lockstold." + file)
            for name, parameters in functions.items():
                with self.subTest(file, name=name):
                    own = inspect.signature(getattr(module, name)).parameters
                    self.assertEqual(tuple(own), parameters)
                    for parameter in own.values():
                        self.assertEqual(parameter.kind, parameter.POSITIONAL_OR_KEYWORD)
                        self.assertIs(parameter.default, parameter.empty)

    def test_each_class_is_there_with_its_methods(self):
        for file, classes in CLASSES.items():
            tree = ast.parse((FOLDER / (file + ".py")).read_text(encoding="ascii"))
            for name, methods in classes.items():
                kind = getattr(importlib.import_module("lockstold." + file), name)
                self.assertEqual(kind.__bases__, (object,))
                body = next(node.body for node in tree.body if isinstance(node, ast.ClassDef) and node.name == name)
                defined = [node.name for node in body if isinstance(node, ast.FunctionDef)]
                self.assertEqual({own for own in defined if not own.startswith("_") or own.startswith("__")}, set(methods))
                for method, parameters in methods.items():
                    own = list(inspect.signature(getattr(kind, method)).parameters.values())[1:]
                    self.assertEqual(tuple(each.name for each in own), parameters, method)
                    for each in own:
                        self.assertEqual((each.kind, each.default), (each.POSITIONAL_OR_KEYWORD, each.empty))

    def test_each_is_defined_in_its_file(self):
        for file, names in [("errors", ERRORS)] + list(INTERFACE.items()) + list(CLASSES.items()):
            tree = ast.parse((FOLDER / (file + ".py")).read_text(encoding="ascii"))
            defined = [node.name for node in tree.body if isinstance(node, (ast.FunctionDef, ast.ClassDef))]
            for name in names:
                self.assertEqual(defined.count(name), 1, (file, name))
                self.assertEqual(getattr(importlib.import_module("lockstold." + file), name).__module__,
                                 "lockstold." + file)

    def test_no_other_public_function_is_there(self):
        for file, functions in INTERFACE.items():
            tree = ast.parse((FOLDER / (file + ".py")).read_text(encoding="ascii"))
            public = {node.name for node in tree.body
                      if isinstance(node, (ast.FunctionDef, ast.ClassDef)) and not node.name.startswith("_")}
            self.assertEqual(public, {*functions, *CLASSES.get(file, ())})

    def test_files_draw_from_those_ahead_alone(self):
        for at, file in enumerate(ORDER):
            for own in imported_files(FOLDER / (file + ".py")):
                self.assertIn(own, ORDER[:at], file)

    def test_folder_has_these_files_alone(self):
        found = {path.name for path in FOLDER.iterdir() if path.name != "__pycache__"}
        self.assertEqual(found, {name + ".py" for name in ORDER + ["__init__"]})


if __name__ == "__main__":
    unittest.main()

"""The interface as written: files, names, arguments, and where they are defined."""

import ast
import importlib
import inspect
import os
import unittest

FUNCTIONS = {
    "halltexts": {"show_hall": "(hall)", "read_hall": "(text)"},
    "stands": {
        "is_stand": "(hall, thing)", "bears": "(hall, stand, room)", "open_doors": "(hall, stand)",
        "lacks": "(hall, stand, door, *, goer=None)",
    },
    "holding": {"holders": "(hall, stand, door)"},
    "deeds": {"deeds": "(hall, stand)", "done": "(hall, stand, deed)", "swung": "(hall, stand, deed)"},
    "ways": {"played": "(hall, stand, way)", "show_way": "(way)", "read_way": "(text)"},
    "backs": {"way_back": "(hall, stand, way)"},
}

CLASSES = {
    "halls": {"Hall": {
        "__init__": "(self, rooms, doors, stones, walkers)", "__eq__": None, "__len__": None,
        "rooms": "(self)", "doors": "(self)", "stones": "(self)", "walkers": "(self)",
        "door": "(self, name)", "heft": "(self, name)", "hands": "(self, walker)",
    }},
}


def own_names(module):
    """The names that a file of the package defines by def and class."""
    path = importlib.import_module(f"weighdoors.{module}").__file__
    with open(path, encoding="ascii") as file:
        tree = ast.parse(file.read())
    return [part.name for part in tree.body if isinstance(part, (ast.FunctionDef, ast.ClassDef))]


class InterfaceTest(unittest.TestCase):
    def test_functions(self):
        for module, functions in FUNCTIONS.items():
            found = importlib.import_module(f"weighdoors.{module}")
            for name, arguments in functions.items():
                self.assertIn(name, own_names(module))
                self.assertEqual(str(inspect.signature(getattr(found, name))), arguments)

    def test_classes_define_their_methods_themselves(self):
        for module, classes in CLASSES.items():
            found = importlib.import_module(f"weighdoors.{module}")
            for name, methods in classes.items():
                self.assertIn(name, own_names(module))
                for method, arguments in methods.items():
                    own = vars(getattr(found, name))[method]
                    if arguments is not None:
                        self.assertEqual(str(inspect.signature(own)), arguments)

    def test_the_package_imports_without_the_tests(self):
        found = importlib.import_module("weighdoors")
        self.assertEqual(os.path.basename(os.path.dirname(found.__file__)), "weighdoors")


if __name__ == "__main__":
    unittest.main()

"""The interface as written: files, names, arguments, and where they are defined."""

import ast
import importlib
import inspect
import os
import unittest

FUNCTIONS = {
    "halltexts": {"show_hall": "(hall)", "read_hall": "(text)"},
    "stands": {
        "is_stand": "(hall, thing)", "bears": "(hall, stand, room)", "open_doors": "(hall, stand)",
        "lacks": "(hall, stand, door, *, goer=None)",
    },
    "holding": {"holders": "(hall, stand, door)"},
    "deeds": {"deeds": "(hall, stand)", "done": "(hall, stand, deed)", "swung": "(hall, stand, deed)"},
    "ways": {"played": "(hall, stand, way)", "show_way": "(way)", "read_way": "(text)"},
    "backs": {"way_back": "(hall, stand, way)"},
    "goals": {"need_goal": "(hall, thing)", "met": "(hall, stand, goal)"},
    "reaching": {"reach": "(play, spot, *, most=2000)"},
    "papers": {
        "bars": "(play, paper)", "forces": "(play, paper)",
        "reply": "(play, paper, spot)", "foil": "(play, paper, spot)",
    },
    "values": {
        "value": "(play, spot, *, most=2000)", "barring": "(play, spot, *, most=2000)",
        "forcing": "(play, spot, *, most=2000)", "cheapest": "(play, spot, *, most=2000)",
    },
    "counting": {
        "count_ways": "(play, spot, length)", "way_at": "(play, spot, length, number)",
        "number_of": "(play, spot, way)",
    },
    "fronts": {"front": "(hall, stand, goal, *, most=2000)"},
    "fences": {
        "is_fence": "(hall, stand, thing)", "fence": "(hall, stand)", "rounds": "(hall, stand)",
        "bar": "(hall, stand, goal)",
    },
    "changes": {
        "walled": "(hall, door)", "opened": "(hall, door)", "rowed": "(hall, door, rows)",
        "hefted": "(hall, name, heft)", "hollowed": "(hall, stone)", "ordered": "(hall, walkers)",
        "beside": "(one, other)", "beside_stand": "(one, stand, other, second)",
    },
    "hefts": {"is_rising": "(hall)", "least_heft": "(hall, stand, goal, stones, *, most=2000)"},
    "doors": {
        "by_door": "(hall, stand, goal, *, prices=(1, 1, 1, 1), most=2000)",
        "parting": "(one, other, stand, *, most=2000)",
    },
    "lots": {
        "lots": "(hall, stand, goal, word, *, most=2000)", "lot_paper": "(hall, stand, goal, word, lot, *, most=2000)",
        "lot_holds": "(hall, stand, goal, word, lot, thing)", "covers": "(names, does, fails)",
    },
    "turnings": {
        "turnings": "(hall, some, *, most=200)", "turned": "(hall, names)", "turned_stand": "(hall, names, stand)",
        "turned_way": "(names, way)", "turned_goal": "(names, goal)", "is_turning": "(hall, thing)",
    },
    "folding": {"unfolded": "(folded, paper)"},
    "mending": {"mended": "(hall, stand, goal, plan, *, most=2000)"},
    "losses": {"lost": "(hall, stand, goal, way, *, most=2000)"},
    "paring": {"pared": "(hall, stand, goal, way, *, most=2000)"},
    "journals": {"show_book": "(book)", "read_book": "(text)"},
}

SPOTS = {"is_spot": "(self, thing)", "met": "(self, spot)", "ours": "(self, spot)", "moves": "(self, spot)"}

CLASSES = {
    "halls": {"Hall": {
        "__init__": "(self, rooms, doors, stones, walkers)", "__eq__": None, "__len__": None,
        "rooms": "(self)", "doors": "(self)", "stones": "(self)", "walkers": "(self)",
        "door": "(self, name)", "heft": "(self, name)", "hands": "(self, walker)",
    }},
    "plays": {
        "Play": {"__init__": "(self, hall, goal, *, prices=(1, 1, 1, 1), side=None, still=())", **SPOTS},
        "Rationed": {"__init__": "(self, hall, goal, layings)", **SPOTS},
    },
    "folding": {"Folded": {"__init__": "(self, play, turnings)", **SPOTS, "least": "(self, stand)"}},
    "mending": {"Mending": {"__init__": "(self, hall, goal, plan)", **SPOTS}},
    "paring": {"Paring": {"__init__": "(self, hall, goal, plan)", **SPOTS}},
    "book": {"Book": {
        "__init__": "(self, hall, stand)", "__eq__": None, "hall_at": "(self, *, moment=None)",
        "stand_at": "(self, *, moment=None)", "acts": "(self)", "do": "(self, deed)", "set_heft": "(self, name, heft)",
        "set_rows": "(self, door, rows)", "wall": "(self, door)", "open_up": "(self, door)", "swung": "(self)",
        "back": "(self)", "on": "(self)", "keep": "(self, goal, *, prices=(1, 1, 1, 1), most=2000)", "rest": "(self)",
        "holds": "(self)", "mend": "(self, *, most=2000)",
    }},
}


def own_names(module):
    """The names that a file of the package defines by def and class."""
    path = importlib.import_module(f"weighdoors.{module}").__file__
    with open(path, encoding="ascii") as file:
        tree = ast.parse(file.read())
    return [part.name for part in tree.body if isinstance(part, (ast.FunctionDef, ast.ClassDef))]


class InterfaceTest(unittest.TestCase):
    def test_functions(self):
        for module, functions in FUNCTIONS.items():
            found = importlib.import_module(f"weighdoors.{module}")
            for name, arguments in functions.items():
                self.assertIn(name, own_names(module))
                self.assertEqual(str(inspect.signature(getattr(found, name))), arguments)

    def test_classes_define_their_methods_themselves(self):
        for module, classes in CLASSES.items():
            found = importlib.import_module(f"weighdoors.{module}")
            for name, methods in classes.items():
                self.assertIn(name, own_names(module))
                for method, arguments in methods.items():
                    own = vars(getattr(found, name))[method]
                    if arguments is not None:
                        self.assertEqual(str(inspect.signature(own)), arguments)

    def test_the_package_imports_without_the_tests(self):
        found = importlib.import_module("weighdoors")
        self.assertEqual(os.path.basename(os.path.dirname(found.__file__)), "weighdoors")


if __name__ == "__main__":
    unittest.main()

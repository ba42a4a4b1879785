"""The interface: each name stands in the file under which the document lists it, with its arguments."""

import ast
import importlib
import inspect
import pathlib
import unittest

FOLDER = pathlib.Path(__file__).resolve().parent.parent / "openlanes"

FUNCTIONS = {
    "kinds": {"is_integer": "(thing)", "is_name": "(thing)", "is_word": "(thing)", "is_arm": "(thing)"},
    "moves": {
        "choices": "(lanes, program, place, content)", "moved": "(lanes, program, place, content, index)",
    },
    "least": {"least": "(system, standings)", "before": "(system, standing, *, held=False)"},
    "bars": {"is_bar": "(system, wished, standing, thing, *, held=False)"},
    "ways": {
        "can_come": "(system, wished, *, most=2000)", "way": "(system, wished, *, most=2000)",
        "bar": "(system, wished, *, most=2000)",
    },
    "crowds": {
        "needed": "(system, steps)", "suffices": "(system, wished, crowd, *, most=2000)",
        "way_of": "(system, wished, crowd, *, most=2000)", "least_crowds": "(system, wished, *, most=2000)",
    },
    "together": {"together": "(system, kind, place, *, limit=3, most=2000)"},
    "stuck": {
        "freeing": "(system, place, content, *, most=2000)", "stuck": "(system, *, most=2000)",
    },
    "caught": {"caught": "(system, kind, place, *, most=2000)"},
    "rounds": {
        "is_round": "(system, standing, index, thing)", "round_from": "(system, standing, index, *, most=2000)",
        "starving": "(system, place, index, *, stay=0, most=2000)",
    },
    "faults": {"faults": "(system, *, most=2000)"},
    "taken": {"never_taken": "(system, *, most=2000)"},
    "bounds": {"safe_bounds": "(names, server, kinds, greatest, *, most=2000)"},
    "rows": {"is_row": "(lanes, thing)", "row_of": "(system, steps)", "client_of": "(row)"},
    "following": {
        "follows": "(lanes, server, row)", "following": "(lanes, server, row)",
        "standings_behind": "(lanes, server, row)",
    },
    "tables": {
        "parting": "(lanes, one, other, *, most=300)", "alike": "(lanes, one, other, *, most=300)",
        "table": "(lanes, one, other, *, most=300)", "is_table": "(lanes, one, other, thing)",
    },
    "comings": {"comings": "(system, crowd, *, most=2000)"},
    "telling": {"teller": "(lanes, one, other, *, most=300)"},
    "unseen": {
        "mode_matters": "(lanes, server, place, *, most=300)",
        "order_matters": "(lanes, server, place, index, *, most=300)",
        "arm_matters": "(lanes, server, place, index, *, most=300)", "lean": "(lanes, server, *, most=300)",
    },
    "notation": {
        "show_lanes": "(lanes)", "show_program": "(program)", "show_row": "(row)", "show_standing": "(standing)",
        "show_deed": "(deed)", "read_lanes": "(text)", "read_program": "(text)", "read_row": "(text)",
        "read_deed": "(text)",
    },
}

CLASSES = {
    "lanes": ("Lanes", {
        "__init__": "(self, bounds)", "bound": "(self, lane)", "is_content": "(self, thing)", "contents": "(self)",
        "state": "(self, content, lane)", "is_open": "(self, content, word, lane)",
        "done": "(self, content, word, lane)", "shut": "(self, content)", "__eq__": None, "__len__": None,
        "__contains__": None, "names": "property", "first": "property", "level": "classmethod",
    }),
    "programs": ("Program", {
        "__init__": "(self, places)", "places": "(self)", "mode": "(self, place)", "arms": "(self, place)",
        "used": "(self)", "with_mode": "(self, place, mode)", "swapped": "(self, place, index)",
        "without": "(self, place, index)", "__eq__": None, "size": "property",
    }),
    "systems": ("System", {
        "__init__": "(self, lanes, server, kinds)", "kinds": "(self)", "program": "(self, who)",
        "seat": "(self, kind, place)", "at": "(self, place, content, crowd)", "is_standing": "(self, thing)",
        "is_above": "(self, one, other)", "steps": "(self, standing)", "after": "(self, standing, step)",
        "run": "(self, standing, steps)", "is_run": "(self, standing, thing)", "__eq__": None, "lanes": "property",
        "server": "property", "first": "property", "seats": "property",
    }),
    "layers": ("Layers", {
        "__init__": "(self, system, wished, *, held=False, most=2000)", "layer": "(self, k)",
        "rank": "(self, standing)", "way": "(self, standing)", "__len__": None, "__contains__": None,
        "last": "property",
    }),
    "book": ("Book", {
        "__init__": "(self, system)", "do": "(self, deed)", "back": "(self)", "again": "(self)",
        "until": "(self, many)", "copied": "(self)", "trial": "(self, act)", "log": "(self)", "steps": "(self)",
        "way": "(self, wished, *, most=2000)", "sticks": "(self, *, most=2000)", "__eq__": None, "__len__": None,
        "system": "property", "standing": "property",
    }),
    "desk": ("Desk", {"__init__": "(self, system)", "say": "(self, line)", "__call__": "(self, line)"}),
}

ERRORS = {
    "Wrong": "(self, place)", "NoLane": "(self, lane)", "Shut": "(self, word, lane)", "NoPlace": "(self, place)",
    "NoArm": "(self, index)", "TwoElse": "(self, place)", "Refused": "(self, what)", "NoKind": "(self, kind)",
    "NoSeat": "(self, place)", "Stopped": "(self, index)", "TooMany": "(self, most)", "Full": "(self)",
    "Nothing": "(self)", "NoEntry": "(self, many)", "NoText": "(self)", "NoCommand": "(self)",
}


def defined(file, kind):
    """The dict from names to the functions or classes that a file defines itself, at its top."""
    tree = ast.parse((FOLDER / f"{file}.py").read_text())
    return {node.name: node for node in tree.body if isinstance(node, kind)}


class InterfaceTest(unittest.TestCase):
    def test_functions(self):
        for file, functions in FUNCTIONS.items():
            nodes = defined(file, ast.FunctionDef)
            module = importlib.import_module(f"openlanes.{file}")
            for name, told in functions.items():
                self.assertIn(name, nodes)
                self.assertEqual(str(inspect.signature(getattr(module, name))), told)

    def test_classes_and_the_methods_in_their_bodies(self):
        for file, (name, methods) in CLASSES.items():
            node = defined(file, ast.ClassDef)[name]
            made = getattr(importlib.import_module(f"openlanes.{file}"), name)
            bodies = {row.name for row in node.body if isinstance(row, ast.FunctionDef)}
            for method, told in methods.items():
                self.assertIn(method, bodies)
                thing = vars(made)[method]
                if told == "property":
                    self.assertIsInstance(thing, property)
                    self.assertIsNone(thing.fset)
                elif told == "classmethod":
                    self.assertIsInstance(thing, classmethod)
                elif told is not None:
                    self.assertEqual(str(inspect.signature(thing)), told)

    def test_level(self):
        from openlanes.lanes import Lanes
        self.assertEqual(str(inspect.signature(Lanes.level)), "(names, bound)")

    def test_the_class_value_of_books(self):
        from openlanes.book import Book
        self.assertEqual(vars(Book)["MOST"], 200)

    def test_errors(self):
        nodes = defined("errors", ast.ClassDef)
        self.assertEqual(sorted(nodes), sorted(["LaneError", *ERRORS]))
        module = importlib.import_module("openlanes.errors")
        for name, told in ERRORS.items():
            self.assertEqual(str(inspect.signature(getattr(module, name).__init__)), told)


if __name__ == "__main__":
    unittest.main()

"""Promise 18: the modules that have landed hold what the interface lists, each defined in its own file."""

import ast
import importlib
import inspect
import os
import unittest

PACKAGE = os.path.join(os.path.dirname(os.path.dirname(os.path.abspath(__file__))), "threeexits")
FUNCTIONS = {
    "places": {"many_places": ["plan"], "ties": ["plan"], "rooms": ["plan"], "walls_at": ["plan", "place"],
               "alikes": ["plan", "other"], "lies_on": ["plan", "place"], "mirrored": ["plan"],
               "renamed": ["plan", "names"]},
    "lots": {"is_lot": ["plan", "thing"], "can_build": ["plan"], "is_narrow": ["plan", "thing"],
             "closed": ["plan", "walls"], "exits": ["plan", "lot"], "narrow": ["plan"], "all_lots": ["plan"],
             "all_narrow": ["plan"]},
    "drawing": {"is_frame": ["sides", "thing"], "is_weights": ["plan", "thing"], "plain_frame": ["sides"],
                "even_weights": ["plan"], "drawing": ["plan", "frame", "weights"]},
    "built": {"fault": ["plan", "thing"], "is_built": ["plan", "thing"], "areas": ["plan", "drawing"],
              "hit": ["plan", "drawing", "point"], "picture": ["plan", "drawing", "wide", "high"]},
    "moves": {"weights_of": ["plan", "drawing"], "mixed": ["plan", "one", "other", "moment"],
              "lead": ["plan", "one", "other", "moment"], "is_weights_of": ["plan", "drawing", "thing"]},
    "editing": {"put": ["plan", "room", "one", "other"], "strike": ["plan", "wall"], "cut": ["plan", "place"],
                "join": ["plan", "place", "one", "other"]},
    "growing": {"bare": ["sides"], "grown": ["sides", "thing"], "growth": ["plan"], "is_growth": ["plan", "thing"]},
    "healing": {"after_cuts": ["plan", "places"], "heals": ["plan", "thing"], "fewest_cuts": ["plan"]},
    "texts": {"plan_text": ["plan"], "drawing_text": ["drawing"], "read_plan": ["text"], "read_drawing": ["text"]},
    "journals": {"journal": ["desk"], "recovered": ["text"]},
}
CLASSES = {
    "plans": {"Plan": {"__init__": ["self", "sides", "walls", "rounds"], "__eq__": ["self", "other"]}},
    "desk": {"Desk": {"__init__": ["self", "sides"], "do": ["self", "deed"], "back": ["self"], "plan": ["self"],
                      "log": ["self"], "corners": ["self"], "copy": ["self"], "narrow": ["self"],
                      "draw": ["self", "frame"], "changed": ["self"]}},
}


def tree_of(module):
    with open(os.path.join(PACKAGE, module + ".py"), encoding="utf-8") as file:
        return ast.parse(file.read())


def arguments(function):
    return [parameter.arg for parameter in function.args.args]


class Interface(unittest.TestCase):
    def test_functions(self):
        for module, listed in FUNCTIONS.items():
            defined = {node.name: node for node in tree_of(module).body if isinstance(node, ast.FunctionDef)}
            for name, wanted in listed.items():
                with self.subTest(name):
                    self.assertEqual(arguments(defined[name]), wanted)
                    found = getattr(importlib.import_module("threeexits." + module), name)
                    self.assertEqual(found.__module__, "threeexits." + module)
                    self.assertTrue(inspect.isfunction(found))

    def test_classes(self):
        for module, listed in CLASSES.items():
            defined = {node.name: node for node in tree_of(module).body if isinstance(node, ast.ClassDef)}
            for name, methods in listed.items():
                bodies = {node.name: node for node in defined[name].body if isinstance(node, ast.FunctionDef)}
                for method, wanted in methods.items():
                    with self.subTest(name + "." + method):
                        self.assertEqual(arguments(bodies[method]), wanted)

    def test_attributes_are_set_when_a_plan_is_made(self):
        plans = importlib.import_module("threeexits.plans")
        plan = plans.Plan(3, ((0, 1), (1, 2), (2, 0)), ((1, 2), (0, 2), (0, 1)))
        for name in ("sides", "walls", "rounds"):
            self.assertIn(name, vars(plan))


if __name__ == "__main__":
    unittest.main()

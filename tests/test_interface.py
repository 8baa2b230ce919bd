"""The names and arguments of the interface, as the document has them."""

import importlib
import inspect
import unittest

INTERFACE = {
    "rolldie.lies": {"is_lie": ["lie"], "lies": [], "hand": ["lie"], "rolled": ["lie", "rolls"], "times": ["rolls"]},
    "rolldie.floors": {"looked": ["floor"], "walked": ["floor", "stand", "rolls"]},
    "rolldie.ways": {
        "come_to": ["floor", "stand"], "way": ["floor", "one", "other"], "ends": ["floor", "stand", "place"],
        "firm": ["floor", "stand"],
    },
    "rolldie.turns": {"turns": ["floor", "place"], "behind": ["one", "other"]},
}


class InterfaceTest(unittest.TestCase):
    def test_names_and_arguments(self):
        for module, functions in INTERFACE.items():
            for name, arguments in functions.items():
                with self.subTest(module=module, name=name):
                    function = getattr(importlib.import_module(module), name)
                    self.assertEqual(list(inspect.signature(function).parameters), arguments)


if __name__ == "__main__":
    unittest.main()

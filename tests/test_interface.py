"""The interface: every name of it is there, with its arguments in their order."""

import importlib
import inspect
import unittest

FUNCTIONS = {
    "trees": {"row_of": "tree", "seek": "keys tree word", "cost": "keys hits misses tree"},
    "best": {name: "keys hits misses" for name in ("worths", "roots", "least", "best")},
    "even": {"even": "keys", "most_steps": "keys tree"},
    "turning": {"turned": "keys tree word", "turns": "keys one other"},
    "notes": {"shown": "keys tree", "read": "text"},
}


class Interface(unittest.TestCase):
    def test_functions_and_their_arguments(self):
        for module, functions in FUNCTIONS.items():
            for name, arguments in functions.items():
                with self.subTest(module=module, name=name):
                    function = getattr(importlib.import_module("seektree." + module), name)
                    self.assertEqual(list(inspect.signature(function).parameters), arguments.split())


if __name__ == "__main__":
    unittest.main()

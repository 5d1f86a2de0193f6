"""The interface: the names and arguments of what has landed, as they stand in the document."""

import importlib
import inspect
import unittest

ARGUMENTS = {
    "words": {"is_name": ["text"], "read_number": ["text"], "read_expression": ["text"], "shown_expression": ["E"]},
    "texts": {"read": ["text"], "shown": ["program"]},
    "places": {"places": ["E"]},
    "kinds": {"parts": ["K"], "numbers": ["K"], "filled": ["K", "filling"]},
    "schemes": {"named": ["K", "lacks"], "stands_for": ["scheme", "K"]},
    "solving": {"solved": ["pairs", "lacks"]},
    "finding": {"schemes": ["program"], "inside": ["program", "k"], "hold": ["program", "k", "some"], "clash": ["program"]},
    "plain": {"run": ["program", "most"]},
    "offsets": {"offset": ["row", "label", "params"]},
    "making": {"made": ["program"]},
    "machine": {"run_made": ["code", "most"], "read_by": ["K", "W"]},
    "showing": {"shown_kind": ["K"], "shown_scheme": ["scheme"], "shown_value": ["V"]},
    "desk": {"answered": ["text", "most"]},
}


class Interface(unittest.TestCase):
    def test_names_and_arguments(self):
        for module, functions in ARGUMENTS.items():
            found = importlib.import_module(f"fieldrows.{module}")
            for name, arguments in functions.items():
                with self.subTest(module=module, name=name):
                    parameters = inspect.signature(getattr(found, name)).parameters
                    self.assertEqual(list(parameters), arguments)
                    for parameter in parameters.values():
                        self.assertIs(parameter.default, inspect.Parameter.empty)


if __name__ == "__main__":
    unittest.main()

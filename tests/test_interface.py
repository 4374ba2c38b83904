"""[1]: names, arguments and modules of the interface."""

import importlib
import inspect
import unittest

INTERFACE = {
    "gatequarters.quarters": {
        "is_word": ["value"], "is_street": ["value"], "Quarter": ["streets", "gates"], "Town": ["streets"],
        "crossings_of": ["quarter"], "street_of": ["quarter", "name"], "places_of": ["town"],
        "asked_of": ["quarter", "town"], "changed": ["quarter", "change"], "changed_by": ["quarter", "changes"],
        "told_changes": ["elder", "newer"], "are_changes": ["elder", "newer", "value"], "mirrored": ["quarter"],
        "idle_names": ["quarter"], "trimmed": ["quarter"], "live_row": ["quarter", "name"],
        "is_live_row": ["quarter", "name", "value"],
    },
    "gatequarters.ways": {
        "net_streets": ["quarter", "town"], "net_places": ["quarter", "town"],
        "is_way": ["quarter", "town", "start", "goal", "value"],
        "way_length": ["quarter", "town", "start", "goal"],
        "shortest_way": ["quarter", "town", "start", "goal"],
        "is_shortest_way": ["quarter", "town", "start", "goal", "value"],
        "heights": ["quarter", "town", "start", "goal"],
        "are_heights": ["quarter", "town", "start", "goal", "value"],
        "way_width": ["quarter", "town", "start", "goal"],
        "widest_way": ["quarter", "town", "start", "goal"],
        "is_widest_way": ["quarter", "town", "start", "goal", "value"],
        "narrow_lot": ["quarter", "town", "start", "goal"],
        "is_narrow_lot": ["quarter", "town", "start", "goal", "value"],
        "used_streets": ["quarter", "town", "start", "goal"],
        "needed_streets": ["quarter", "town", "start", "goal"],
        "wide_length": ["quarter", "town", "start", "goal", "width"],
        "trades": ["quarter", "town", "start", "goal"],
    },
}
METHODS = {"Quarter": ["streets", "gates", "__eq__"], "Town": ["streets", "__eq__"]}


class Interface(unittest.TestCase):
    def test_each_name_takes_the_arguments_of_the_interface(self):
        for module, names in INTERFACE.items():
            for name, arguments in names.items():
                thing = getattr(importlib.import_module(module), name)
                self.assertEqual(list(inspect.signature(thing).parameters), arguments, name)

    def test_each_name_is_defined_in_its_own_file(self):
        for module, names in INTERFACE.items():
            for name in names:
                self.assertEqual(getattr(importlib.import_module(module), name).__module__, module, name)

    def test_each_method_stands_in_its_class(self):
        quarters = importlib.import_module("gatequarters.quarters")
        for name, methods in METHODS.items():
            for method in methods:
                self.assertIn(method, vars(getattr(quarters, name)))


if __name__ == "__main__":
    unittest.main()

"""The interface: names, parameters, and where they are defined."""

import inspect
import unittest

from repeatnets import levels, nets, sums

FUNCTIONS = [
    (nets, "is_way", ["net", "thing"]),
    (sums, "is_sum", ["net", "thing"]), (sums, "is_round", ["net", "thing"]), (sums, "closes", ["net"]),
    (sums, "round_of", ["net"]), (sums, "sum_with", ["net", "name"]), (sums, "walked", ["net", "thing"]),
    (sums, "least_way", ["net", "most"]),
    (levels, "levels_of", ["net"]), (levels, "is_levels", ["net", "thing"]), (levels, "parts_of", ["net"]),
    (levels, "depth", ["net"]), (levels, "rank", ["net", "levels", "room", "place"]),
]
METHODS = [
    ("__init__", ["axes", "rooms", "ties"]), ("rooms", []), ("ties", []), ("tie", ["name"]), ("without", ["names"]),
    ("only", ["names"]), ("more", ["ties"]), ("__len__", []), ("__contains__", None), ("__eq__", None),
    ("__or__", None), ("__invert__", []),
]


class TestInterface(unittest.TestCase):
    def test_functions(self):
        for module, name, parameters in FUNCTIONS:
            found = getattr(module, name)
            self.assertEqual(found.__module__, module.__name__)
            self.assertEqual(list(inspect.signature(found).parameters), parameters)

    def test_methods_stand_in_the_class_itself(self):
        self.assertEqual(nets.Net.__module__, "repeatnets.nets")
        for name, parameters in METHODS:
            self.assertIn(name, vars(nets.Net))
            if parameters is not None:
                self.assertEqual(list(inspect.signature(vars(nets.Net)[name]).parameters)[1:], parameters)


if __name__ == "__main__":
    unittest.main()

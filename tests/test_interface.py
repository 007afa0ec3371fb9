"""The interface: names, parameters, and where they are defined."""

import inspect
import unittest

from repeatnets import boxes, changes, costs, cuts, desks, directions, levels, nets, sums, texts, turns

FUNCTIONS = [
    (nets, "is_way", ["net", "thing"]),
    (sums, "is_sum", ["net", "thing"]), (sums, "is_round", ["net", "thing"]), (sums, "closes", ["net"]),
    (sums, "round_of", ["net"]), (sums, "sum_with", ["net", "name"]), (sums, "walked", ["net", "thing"]),
    (sums, "least_way", ["net", "most"]),
    (levels, "levels_of", ["net"]), (levels, "is_levels", ["net", "thing"]), (levels, "parts_of", ["net"]),
    (levels, "depth", ["net"]), (levels, "rank", ["net", "levels", "room", "place"]),
    (changes, "turned", ["net", "matrix"]), (changes, "flat", ["net", "axis"]),
    (changes, "shifted", ["net", "room", "place"]), (changes, "wider", ["net", "axis", "size"]),
    (changes, "bent", ["net", "axis", "size"]), (changes, "alike", ["one", "other"]),
    (boxes, "box_way", ["net", "sizes"]), (boxes, "is_box_way", ["net", "sizes", "thing"]),
    (boxes, "longest_way", ["net", "sizes"]), (boxes, "boxed", ["net", "axis", "size"]), (boxes, "least_boxes", ["net"]),
    (cuts, "cuts", ["net", "names"]), (cuts, "vital", ["net"]),
    (turns, "straight", ["axes", "kinds"]), (turns, "quarter", ["axes", "kinds"]), (turns, "around", ["axes", "kinds"]),
    (turns, "rising", ["axes", "kinds"]), (turns, "level", ["axes", "kinds"]),
    (turns, "ordered", ["axes", "kinds", "order"]), (turns, "as_seen", ["one", "other"]),
    (texts, "write", ["thing"]), (texts, "read", ["text"]),
    (directions, "heights", ["net", "direction"]), (directions, "falling", ["net", "direction"]),
    (directions, "is_falling", ["net", "direction", "thing"]),
    (costs, "cores", ["net"]), (costs, "cheapest", ["net", "costs"]), (costs, "cheap_sum", ["net", "costs"]),
    (costs, "cheap_round", ["net", "costs"]), (costs, "cheaper", ["net", "costs", "above", "below"]),
    (costs, "price", ["net", "costs"]), (costs, "is_price", ["net", "costs", "thing"]),
]
METHODS = {nets.Net: [
    ("__init__", ["axes", "rooms", "ties"]), ("rooms", []), ("ties", []), ("tie", ["name"]), ("without", ["names"]),
    ("only", ["names"]), ("more", ["ties"]), ("__len__", []), ("__contains__", None), ("__eq__", None),
    ("__or__", None), ("__invert__", []),
], turns.Turns: [
    ("__init__", ["axes", "kinds", "pairs"]), ("pairs", []), ("net", []), ("jam", []), ("is_jam", ["sizes", "thing"]),
    ("bars", ["pairs"]), ("seen", ["axes", "signs", "kinds"]), ("__len__", []), ("__contains__", None), ("__eq__", None),
    ("__or__", None), ("__and__", None), ("__sub__", None), ("__invert__", []),
], desks.Desk: [
    ("__init__", ["net"]), ("net", []), ("room", ["name"]), ("tie", ["name", "start", "end", "step"]), ("cut", ["name"]),
    ("move", ["room", "place"]), ("is_closed", []), ("since", []), ("would", ["deeds"]), ("undo", []), ("again", []),
    ("copy", []), ("trial", ["work"]),
]}
HOMES = {"Net": "repeatnets.nets", "Turns": "repeatnets.turns", "Desk": "repeatnets.desks"}


class TestInterface(unittest.TestCase):
    def test_functions(self):
        for module, name, parameters in FUNCTIONS:
            found = getattr(module, name)
            self.assertEqual(found.__module__, module.__name__)
            self.assertEqual(list(inspect.signature(found).parameters), parameters)

    def test_methods_stand_in_the_class_itself(self):
        for made, methods in METHODS.items():
            self.assertEqual(made.__module__, HOMES[made.__name__])
            for name, parameters in methods:
                self.assertIn(name, vars(made))
                if parameters is not None:
                    self.assertEqual(list(inspect.signature(vars(made)[name]).parameters)[1:], parameters)


if __name__ == "__main__":
    unittest.main()

"""Point [41]: the rows of the document's examples about nets, sums and levels."""

import unittest

from repeatnets.levels import depth, is_levels, levels_of, parts_of, rank
from repeatnets.nets import Net, is_way
from repeatnets.sums import closes, is_round, least_way, round_of, sum_with, walked


class TestExamples(unittest.TestCase):
    def test_star_and_far(self):
        star = Net(2, ["r"], [("e", "r", "r", [1, 0]), ("n", "r", "r", [0, 1]), ("b", "r", "r", [-2, -1])])
        told = [closes(star), is_round(star, {"e": 2, "n": 1, "b": 1}), len(least_way(star, 5)),
                closes(star.without(["n"]))]
        self.assertEqual(told, [True, True, 4, False])
        far = Net(1, ["a"], [("on", "a", "a", [10 ** 12 + 1]), ("off", "a", "a", [-10 ** 12])])
        told = round_of(far)
        self.assertEqual([told["on"] * (10 ** 12 + 1) == told["off"] * 10 ** 12, is_way(far, ["on", "off"]),
                          walked(star, {"b": 1, "n": 1, "e": 2})[0] in star], [True, False, True])

    def test_two(self):
        ties = [("u", "a", "a", [3, 0]), ("v", "b", "b", [-5, 0]), ("s", "a", "b", [0, 1]), ("t", "b", "a", [0, 0])]
        two = Net(2, ["a", "b"], ties)
        self.assertEqual([closes(two), depth(two), parts_of(two), sum_with(two, "s"), sorted(sum_with(two, "u"))],
                         [False, 2, [(["a", "b"], ["s", "t"], [(["a"], ["u"], []), (["b"], ["v"], [])])], None,
                          ["u", "v"]])
        paper = [(["a", "b"], [0, 1], [0, 0], [(["a"], [1, 0], [0], []), (["b"], [-1, 0], [0], [])])]
        self.assertEqual([is_levels(two, paper), rank(two, paper, "a", [7, 4]), rank(two, paper, "b", [7, 5]),
                          is_levels(two, levels_of(two))],
                         [True, [0, 4, 1, 7, 0], [0, 5, 0, -7, 0], True])


if __name__ == "__main__":
    unittest.main()

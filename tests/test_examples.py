"""Point [41]: the examples of the document, row by row as they stand there."""

import doctest
import pathlib
import unittest

ROWS = """
>>> from repeatnets.nets import Net, is_way
>>> from repeatnets.sums import closes, is_round, least_way, round_of, sum_with, walked
>>> star = Net(2, ["r"], [("e", "r", "r", [1, 0]), ("n", "r", "r", [0, 1]), ("b", "r", "r", [-2, -1])])
>>> [closes(star), is_round(star, {"e": 2, "n": 1, "b": 1}), len(least_way(star, 5)), closes(star.without(["n"]))]
[True, True, 4, False]
>>> far = Net(1, ["a"], [("on", "a", "a", [10 ** 12 + 1]), ("off", "a", "a", [-10 ** 12])])
>>> told = round_of(far)
>>> [told["on"] * (10 ** 12 + 1) == told["off"] * 10 ** 12, is_way(far, ["on", "off"]), walked(star, {"b": 1, "n": 1, "e": 2})[0] in star]
[True, False, True]
>>> from repeatnets.levels import depth, is_levels, levels_of, parts_of, rank
>>> ties = [("u", "a", "a", [3, 0]), ("v", "b", "b", [-5, 0]), ("s", "a", "b", [0, 1]), ("t", "b", "a", [0, 0])]
>>> two = Net(2, ["a", "b"], ties)
>>> [closes(two), depth(two), parts_of(two), sum_with(two, "s"), sorted(sum_with(two, "u"))]
[False, 2, [(['a', 'b'], ['s', 't'], [(['a'], ['u'], []), (['b'], ['v'], [])])], None, ['u', 'v']]
>>> paper = [(["a", "b"], [0, 1], [0, 0], [(["a"], [1, 0], [0], []), (["b"], [-1, 0], [0], [])])]
>>> [is_levels(two, paper), rank(two, paper, "a", [7, 4]), rank(two, paper, "b", [7, 5]), is_levels(two, levels_of(two))]
[True, [0, 4, 1, 7, 0], [0, 5, 0, -7, 0], True]
>>> from repeatnets.directions import falling, heights
>>> [heights(two, [0, 1]), falling(two, [1, 0]), heights(star, [-1, -3]), heights(star.without(["n"]), [1, -2])]
[[0, 0], ['v'], None, [0]]
>>> from repeatnets.costs import cheap_round, cheapest, cheaper, cores, is_price
>>> lanes = [("u", "a", "a", [1]), ("d", "b", "b", [-1]), ("s", "a", "b", [0]), ("t", "b", "a", [0])]
>>> apart = Net(1, ["a", "b"], lanes)
>>> [cores(apart), cheapest(apart, {"s": 3}), cheap_round(apart, {"s": 3}), is_round(apart, cheaper(apart, {"s": 3}, 1, 100))]
[[(['a', 'b'], ['u', 'd', 's', 't'])], (0, 1), None, True]
>>> [is_price(apart, {"s": 3}, ((0, 1), [(1, [0], [0, 0])])), is_price(apart, {"s": 3}, ((1, 1), [(1, [0], [0, 0])]))]
[True, False]
"""
DOCUMENT = pathlib.Path(__file__).resolve().parent.parent.parent / "shared" / "DOC.md"


class TestExamples(unittest.TestCase):
    def test_all_rows(self):
        test = doctest.DocTestParser().get_doctest(ROWS, {}, "examples", None, 0)
        self.assertEqual(len(test.examples), ROWS.count(">>> "))
        told = []
        found = doctest.DocTestRunner().run(test, out=told.append)
        self.assertEqual([found.failed, found.attempted], [0, ROWS.count(">>> ")], "".join(told))

    @unittest.skipUnless(DOCUMENT.is_file(), "the document is not beside the project")
    def test_rows_are_those_of_the_document(self):
        rows = DOCUMENT.read_text(encoding="utf-8").split("```\n")[1]
        self.assertEqual(ROWS.strip("\n"), rows.strip("\n"))


if __name__ == "__main__":
    unittest.main()

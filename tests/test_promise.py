"""Points [1] and [2]: just one of a round and levels is told, and this agrees with a plain search."""

import unittest

from helpers import levels_hold, make, round_holds, small_nets, sums_by_search, ways_by_search
from repeatnets.levels import depth, is_levels, levels_of
from repeatnets.sums import closes, is_round, least_way, round_of, sum_with, walked


class TestPromise(unittest.TestCase):
    def check_one_of_both(self, raw):
        net = make(raw)
        told, paper = round_of(net), levels_of(net)
        self.assertNotEqual(told is None, paper is None, raw)
        self.assertIs(closes(net), paper is None)
        self.assertEqual(depth(net) is None, paper is None)
        if paper is None:
            self.assertTrue(round_holds(raw, told), raw)
            self.assertIs(is_round(net, told), True)
        else:
            self.assertTrue(levels_hold(raw[0], raw[1], raw[2], paper), raw)
            self.assertIs(is_levels(net, paper), True)
        return paper is None

    def test_just_one_of_a_round_and_levels(self):
        closing = [self.check_one_of_both(raw)
                   for raw in small_nets(61, 1500, most_rooms=5, most_ties=9, most_axes=4, reach=2)]
        self.assertGreater(sum(closing), 200)
        self.assertGreater(len(closing) - sum(closing), 200)

    def test_with_great_steps(self):
        for raw in small_nets(63, 150, most_rooms=4, most_ties=9, most_axes=4, reach=10 ** 15 - 1):
            self.check_one_of_both(raw)

    def test_agrees_with_a_search_through_small_counts(self):
        seen = set()
        for raw in small_nets(65, 250, most_rooms=3, most_ties=4, most_axes=2):
            found = any(round_holds(raw, counts) for counts in sums_by_search(raw, 4))
            self.assertIs(self.check_one_of_both(raw), found, raw)
            seen.add(found)
        self.assertEqual(seen, {True, False})

    def test_agrees_with_a_search_through_short_ways(self):
        seen = set()
        for raw in small_nets(67, 250, most_rooms=3, most_ties=5, most_axes=2):
            found = ways_by_search(raw, 10) is not None
            self.assertIs(self.check_one_of_both(raw), found, raw)
            seen.add(found)
        self.assertEqual(seen, {True, False})

    def test_free_choices_are_the_same_each_time(self):
        for raw in small_nets(69, 60, most_rooms=3, most_ties=6, most_axes=2):
            one, other = make(raw), make(raw)
            for tell in (round_of, levels_of, lambda net: least_way(net, 6)):
                told = tell(one)
                self.assertEqual(told, tell(one))
                self.assertEqual(told, tell(other))
            for name in [tie[0] for tie in raw[2]]:
                self.assertEqual(sum_with(one, name), sum_with(other, name))
            if round_of(one) is not None:
                self.assertEqual(walked(one, round_of(one)), walked(other, round_of(other)))


if __name__ == "__main__":
    unittest.main()

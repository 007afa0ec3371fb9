"""Points [3] and [10] to [12]: balanced sums, rounds, closed ways told."""

import unittest
from collections import Counter

from helpers import (any_objects, make, raises, round_holds, small_nets, sum_holds, sums_by_search, way_holds,
                     ways_by_search)
from repeatnets.errors import BadNumber, BadRound, NoTie
from repeatnets.nets import Net
from repeatnets.sums import closes, is_round, is_sum, least_way, round_of, sum_with, walked

STAR = (2, ["r"], [("e", "r", "r", [1, 0]), ("n", "r", "r", [0, 1]), ("b", "r", "r", [-2, -1])])
APART = (1, ["a", "b"], [("u", "a", "a", [3]), ("d", "b", "b", [-3])])
LINKED = (1, ["a", "b"], [("u", "a", "a", [3]), ("d", "b", "b", [-3]), ("s", "a", "b", [5]), ("t", "b", "a", [-5])])


class TestAreSums(unittest.TestCase):
    def test_balanced_sums_and_rounds(self):
        net = make(STAR)
        for counts in ({"e": 2, "n": 1, "b": 1}, {"b": 3, "n": 3, "e": 6}, {"e": 2 * 10 ** 30, "n": 10 ** 30, "b": 10 ** 30}):
            self.assertIs(is_sum(net, counts), True)
            self.assertIs(is_round(net, counts), True)
        for counts in ({}, {"e": 1}, {"e": 2, "n": 1}, {"e": 2, "n": 1, "b": 2}, {"e": 1, "n": 1, "b": 1}):
            self.assertIs(is_sum(net, counts), False)
            self.assertIs(is_round(net, counts), False)

    def test_rings_that_cancel_one_another_and_lie_apart(self):
        self.assertIs(is_sum(make(APART), {"u": 1, "d": 1}), True)
        self.assertIs(is_round(make(APART), {"u": 1, "d": 1}), False)
        self.assertIs(is_round(make(LINKED), {"u": 1, "d": 1}), False)
        self.assertIs(is_round(make(LINKED), {"u": 1, "d": 1, "s": 1, "t": 1}), True)
        self.assertIs(is_round(make(LINKED), {"s": 1, "t": 1}), True)

    def test_rings_that_hang_together_in_a_room(self):
        net = Net(1, ["a", "b", "c"], [("p", "a", "b", [1]), ("q", "b", "a", [1]), ("x", "b", "c", [-1]),
                                       ("y", "c", "b", [-1]), ("z", "c", "c", [0])])
        self.assertIs(is_round(net, {"p": 1, "q": 1, "x": 1, "y": 1}), True)
        self.assertIs(is_round(net, {"p": 1, "q": 1, "x": 1, "y": 1, "z": 7}), True)
        self.assertIs(is_round(net, {"p": 1, "q": 1}), False)
        self.assertIs(is_sum(net, {"p": 2, "q": 1, "x": 1, "y": 1}), False)

    def test_each_room_counts(self):
        net = Net(0, ["a", "b", "c"], [("p", "a", "b", []), ("q", "b", "c", []), ("r", "c", "a", [])])
        self.assertIs(is_sum(net, {"p": 1, "q": 1, "r": 1}), True)
        for counts in ({"p": 1, "q": 1}, {"q": 1, "r": 1}, {"p": 1, "r": 1}, {"p": 1, "q": 2, "r": 1}):
            self.assertIs(is_sum(net, counts), False)

    def test_counts_are_integers_from_one_on(self):
        net = Net(1, ["a"], [("o", "a", "a", [0]), ("e", "a", "a", [0]), ("u", "a", "a", [1]), ("d", "a", "a", [-1])])
        for test in (is_sum, is_round):
            self.assertIs(test(net, {"o": 1}), True)
            for count in any_objects():
                good = type(count) is int and count >= 1
                self.assertIs(test(net, {"o": count}), good)
                self.assertIs(test(net, {"e": 1, "o": count}), good)
            self.assertIs(test(net, {"u": -1, "d": -1}), False)
            self.assertIs(test(net, {"o": 1, "u": 0}), False)

    def test_any_object(self):
        net = Net(0, ["a"], [("e", "a", "a", [])])
        for test in (is_sum, is_round):
            for thing in any_objects() + [[("e", 1)], (("e", 1),), {"e": 1, "f": 1}, {1: 1}, {None: 1}, {("e",): 1}]:
                self.assertIs(test(net, thing), type(thing) is dict and thing == {"e": 1})
            self.assertIs(test(net=net, thing={"e": 4}), True)

    def test_sums_of_small_nets(self):
        for raw in small_nets(3, 60, most_ties=4):
            net = make(raw)
            told = list(sums_by_search(raw, 2))
            for counts in told:
                self.assertIs(is_sum(net, counts), True)
                self.assertIs(is_round(net, counts), round_holds(raw, counts))
                more = dict(counts)
                more[raw[2][0][0]] = more.get(raw[2][0][0], 0) + 1
                self.assertIs(is_sum(net, more), sum_holds(raw, more))


class TestClosing(unittest.TestCase):
    def test_closing_nets(self):
        for raw in (STAR, LINKED, (0, ["a"], [("o", "a", "a", [])]), (4, ["a"], [("o", "a", "a", [0, 0, 0, 0])]),
                    (0, ["a", "b"], [("p", "a", "b", []), ("q", "b", "a", [])])):
            self.assertIs(closes(make(raw)), True)
            self.assertTrue(round_holds(raw, round_of(make(raw))))

    def test_nets_that_do_not_close(self):
        for raw in (APART, (0, ["a"], []), (4, ["a", "b"], []), (0, ["a", "b"], [("p", "a", "b", [])]),
                    (4, ["a"], [("o", "a", "a", [0, 0, 0, 1])]), (1, ["a"], [("x", "a", "a", [2]), ("y", "a", "a", [1])]),
                    (1, ["a", "b"], [("u", "a", "a", [3]), ("d", "b", "b", [-3]), ("s", "a", "b", [5])])):
            self.assertIs(closes(make(raw)), False)
            self.assertIsNone(round_of(make(raw)))

    def test_star_of_four_axes(self):
        steps = [[int(at == axis) for at in range(4)] for axis in range(4)] + [[-2, -3, -5, -7]]
        raw = (4, ["a"], [("t%d" % at, "a", "a", step) for at, step in enumerate(steps)])
        told = round_of(make(raw))
        self.assertTrue(round_holds(raw, told))
        self.assertEqual([told["t%d" % at] for at in range(4)], [told["t4"] * by for by in (2, 3, 5, 7)])
        for at in range(5):
            self.assertIs(closes(make(raw).without(["t%d" % at])), False)

    def test_a_round_of_very_many_ties(self):
        one, other = 10 ** 15 - 1, 10 ** 15 - 2
        raw = (2, ["a"], [("e", "a", "a", [one, 1]), ("w", "a", "a", [-other, 0]), ("s", "a", "a", [1, -other])])
        told = round_of(make(raw))
        self.assertTrue(round_holds(raw, told))
        self.assertGreater(sum(told.values()), 10 ** 15)
        self.assertIs(closes(make(raw).without(["s"])), False)

    def test_a_round_of_sums_none_of_which_hangs_together(self):
        ties = [("u", "a", "a", [1, 0, 0]), ("v", "b", "b", [-2, 0, 0]), ("s", "a", "b", [0, 3, 0]),
                ("t", "b", "a", [0, 0, 0]), ("x", "c", "c", [0, -1, 0]), ("y", "b", "c", [0, 0, 1]),
                ("z", "c", "b", [0, 0, 1]), ("k", "a", "a", [0, 0, -4])]
        raw = (3, ["a", "b", "c"], ties)
        told = round_of(make(raw))
        self.assertTrue(round_holds(raw, told))
        self.assertLessEqual(set("stxyzk"), set(told))
        for name, _, _, _ in ties:
            self.assertIs(closes(make(raw).without([name])), name in "uv")
            self.assertTrue(sum_holds(raw, sum_with(make(raw), name)))
        way = walked(make(raw), told)
        self.assertTrue(way_holds(raw, way))

    def test_exact_integers(self):
        far = 10 ** 15 - 1
        for by, told in ((0, True), (1, False), (-1, False)):
            raw = (2, ["a"], [("p", "a", "a", [far, far - 1]), ("q", "a", "a", [-far, 1 - far + by])])
            self.assertIs(closes(make(raw)), told)

    def test_the_same_each_time_and_new_each_time(self):
        for call in (lambda: round_of(make(LINKED)), lambda: sum_with(make(LINKED), "u"),
                     lambda: walked(make(LINKED), {"s": 2, "t": 2, "u": 1, "d": 1}), lambda: least_way(make(LINKED), 8)):
            told = call()
            told.clear()
            self.assertIsNot(call(), call())
            self.assertEqual(call(), call())
            self.assertTrue(call())

    def test_the_net_stays_and_tells_the_same(self):
        net = make(LINKED)
        told = round_of(net)
        told["u"] = 7
        round_of(net).clear()
        sum_with(net, "u").clear()
        self.assertTrue(round_holds(LINKED, round_of(net)))
        self.assertEqual(net, make(LINKED))


class TestSumWith(unittest.TestCase):
    def test_rings_apart(self):
        told = sum_with(make(APART), "u")
        self.assertTrue(sum_holds(APART, told))
        self.assertEqual(told["u"], told["d"])
        self.assertTrue(sum_holds(APART, sum_with(make(APART), name="d")))

    def test_none(self):
        net = Net(1, ["a", "b"], [("u", "a", "a", [3]), ("d", "b", "b", [-3]), ("s", "a", "b", [5])])
        self.assertIsNone(sum_with(net, "s"))
        self.assertIsNone(sum_with(net.without(["d"]), "u"))
        self.assertIn("u", sum_with(net, "u"))

    def test_any_object(self):
        net = Net(0, ["a"], [("e", "a", "a", [])])
        for thing in any_objects() + ["a", "u"]:
            if thing != "e":
                raises(self, NoTie, [("name", thing)], lambda: sum_with(net, thing))
        self.assertIs(type(sum_with(net, "e")), dict)

    def test_small_nets(self):
        for raw in small_nets(5, 150, most_ties=4):
            found = set()
            for counts in sums_by_search(raw, 3):
                found |= set(counts)
            for name in [tie[0] for tie in raw[2]]:
                told = sum_with(make(raw), name)
                self.assertEqual(told is not None, name in found, raw)
                if told is not None:
                    self.assertIn(name, told)
                    self.assertTrue(sum_holds(raw, told))


class TestWalked(unittest.TestCase):
    def check(self, raw, counts):
        way = walked(make(raw), counts)
        self.assertTrue(way_holds(raw, way))
        self.assertEqual(Counter(way), Counter(counts))

    def test_ways_of_rounds(self):
        self.check(STAR, {"e": 2, "n": 1, "b": 1})
        self.check(STAR, {"b": 5, "e": 10, "n": 5})
        self.check(LINKED, {"u": 1, "d": 1, "s": 1, "t": 1})
        self.check(LINKED, {"u": 40, "d": 40, "s": 9, "t": 9})
        self.check((0, ["a"], [("o", "a", "a", [])]), {"o": 3})

    def test_up_to_a_thousand_ties(self):
        self.check(STAR, {"e": 500, "n": 250, "b": 250})
        self.check(LINKED, {"u": 1, "d": 1, "s": 499, "t": 499})
        self.check(LINKED, {"u": 499, "d": 499, "s": 1, "t": 1})
        counts = {"u": 2, "d": 2, "s": 499, "t": 499}
        raises(self, BadRound, [("thing", counts)], lambda: walked(make(LINKED), counts))
        self.check((1, ["a"], [("o", "a", "a", [0])]), {"o": 1000})
        counts = {"o": 1001}
        raises(self, BadRound, [("thing", counts)], lambda: walked(Net(1, ["a"], [("o", "a", "a", [0])]), counts))
        counts = {"e": 502, "n": 251, "b": 251}
        raises(self, BadRound, [("thing", counts)], lambda: walked(make(STAR), counts))
        counts = {"e": 2 * 10 ** 40, "n": 10 ** 40, "b": 10 ** 40}
        raises(self, BadRound, [("thing", counts)], lambda: walked(make(STAR), counts))

    def test_a_ring_of_many_rooms_with_rings_at_them(self):
        rooms = ["r%d" % at for at in range(10)]
        ties = [("n%d" % at, rooms[at], rooms[(at + 1) % 10], [at]) for at in range(10)]
        ties += [("o%d" % at, rooms[at], rooms[at], [-1]) for at in range(10)]
        ties += [("b%d" % at, rooms[(at + 1) % 10], rooms[at], [1]) for at in range(10)]
        raw = (1, rooms, ties)
        counts = {"n%d" % at: 2 for at in range(10)}
        counts.update({"o%d" % at: 10 for at in range(10)})
        counts.update({"b%d" % at: 1 for at in range(10)})
        self.check(raw, counts)

    def test_no_rounds(self):
        for counts in ({"u": 1, "d": 1}, {}, {"u": 1}, {"s": 1, "t": 2}, {"x": 1}, {"s": True, "t": 1}):
            raises(self, BadRound, [("thing", counts)], lambda: walked(make(LINKED), counts))

    def test_any_object(self):
        net = Net(0, ["a"], [("e", "a", "a", [])])
        for thing in any_objects():
            if thing != {"e": 1}:
                raises(self, BadRound, [("thing", thing)], lambda: walked(net, thing))
        self.assertEqual(walked(net=net, thing={"e": 1}), ["e"])

    def test_what_is_passed_stays(self):
        counts = {"s": 2, "t": 2}
        walked(make(LINKED), counts)
        self.assertEqual(counts, {"s": 2, "t": 2})

    def test_told_rounds_of_small_nets(self):
        many = 0
        for raw in small_nets(7, 300, most_ties=6, reach=2):
            told = round_of(make(raw))
            if told is not None and sum(told.values()) <= 1000:
                many += 1
                self.check(raw, told)
        self.assertGreater(many, 50)


class TestLeastWay(unittest.TestCase):
    def test_star(self):
        for most in (4, 5, 8, 10 ** 20):
            way = least_way(make(STAR), most)
            self.assertTrue(way_holds(STAR, way))
            self.assertEqual(len(way), 4)
        for most in (1, 2, 3):
            self.assertIsNone(least_way(make(STAR), most))

    def test_each_length_up_to_eight(self):
        for length in range(1, 9):
            raw = (1, ["a"], [("u", "a", "a", [1]), ("d", "a", "a", [1 - length])])
            way = least_way(make(raw), 8)
            self.assertEqual(len(way), length)
            self.assertTrue(way_holds(raw, way))
            if length > 1:
                self.assertIsNone(least_way(make(raw), length - 1))
            self.assertEqual(len(least_way(net=make(raw), most=length)), length)

    def test_the_least_of_all_rooms(self):
        ties = [("u", "a", "a", [1]), ("d", "a", "a", [-4]), ("s", "b", "b", [1]), ("t", "b", "b", [-2])]
        raw = (1, ["a", "b"], ties)
        self.assertEqual(len(least_way(make(raw), 8)), 3)
        raw = (1, ["b", "a"], ties)
        self.assertEqual(len(least_way(make(raw), 8)), 3)

    def test_none(self):
        self.assertIsNone(least_way(make(APART), 8))
        self.assertIsNone(least_way(make(APART), 10 ** 30))
        self.assertIsNone(least_way(Net(0, ["a"], []), 1))

    def test_any_object(self):
        for thing in any_objects() + [-5, "1"]:
            if type(thing) is not int or thing < 1:
                raises(self, BadNumber, [("number", thing)], lambda: least_way(make(STAR), thing))
                raises(self, BadNumber, [("number", thing)], lambda: least_way(make(APART), thing))

    def test_small_nets(self):
        for raw in small_nets(9, 400, most_rooms=3, most_ties=5, reach=2):
            for most in (1, 2, 3, 6):
                found = ways_by_search(raw, most)
                told = least_way(make(raw), most)
                if found is None:
                    self.assertIsNone(told, raw)
                else:
                    self.assertEqual(len(told), len(found))
                    self.assertTrue(way_holds(raw, told))


if __name__ == "__main__":
    unittest.main()

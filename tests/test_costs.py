"""Points [3], [4], [37] and [38]: cores, least means and costs, against a plain search of the test's own."""

import math
import random
import unittest

from cost_helpers import cores_by_hand, least_by_hand, rays_by_search, round_exists
from helpers import any_objects, hangs, is_plain_int, make, raises, round_holds, small_nets, sum_holds
from repeatnets.costs import cheap_round, cheap_sum, cheaper, cheapest, cores, is_price, price
from repeatnets.desks import Desk
from repeatnets.errors import BadCosts, BadNumber
from repeatnets.levels import parts_of
from repeatnets.nets import Net
from repeatnets.sums import closes, is_round, walked

APART = (1, ["a", "b"], [("u", "a", "a", [1]), ("d", "b", "b", [-1]), ("s", "a", "b", [0]), ("t", "b", "a", [0])])
STAR = (2, ["r"], [("e", "r", "r", [1, 0]), ("n", "r", "r", [0, 1]), ("b", "r", "r", [-2, -1])])
SIX = [("cheapest", cheapest, ()), ("cheap_sum", cheap_sum, ()), ("cheap_round", cheap_round, ()),
       ("cheaper", cheaper, (1, 1)), ("price", price, ()), ("is_price", is_price, (None,))]


def some_costs(chance, raw, reach):
    """Costs of some of the ties, below, at and above 0."""
    return {tie[0]: chance.randint(-reach, reach) for tie in raw[2] if chance.random() < 0.8}


def mean_by_hand(counts, costs):
    """The mean of counts as a pair in lowest terms."""
    above, below = sum(counts[name] * costs.get(name, 0) for name in counts), sum(counts.values())
    return above // math.gcd(above, below), below // math.gcd(above, below)


class TestCores(unittest.TestCase):
    def test_against_parts_at_every_depth(self):
        found = {}
        for raw in small_nets(121, 1500, most_rooms=5, most_ties=8, most_axes=3, reach=1):
            net = make(raw)
            told = cores(net)
            self.assertEqual(told, cores_by_hand(parts_of(net), raw[2]))
            self.assertIs(type(told), list)
            for core in told:
                self.assertIs(type(core), tuple)
                self.assertEqual([type(one) for one in core], [list, list])
                rooms, names = core
                self.assertTrue(hangs([tie for tie in raw[2] if tie[0] in names]))
                self.assertIs(closes(net.only(names)), True)
            self.assertIs(closes(net), bool(told))
            found[len(told)] = found.get(len(told), 0) + 1
        self.assertTrue(all(found.get(many, 0) > 10 for many in (0, 1, 2)), found)

    def test_cores_within_parts(self):
        ties = [("up", "a", "c", [1, 0]), ("back", "c", "a", [0, 0]), ("p", "a", "b", [0, 0]), ("q", "b", "a", [0, 0]),
                ("e", "c", "c", [0, 1]), ("w", "c", "c", [0, -1]), ("on", "c", "d", [5, 5]), ("o", "d", "d", [0, 0]),
                ("l", "e", "e", [3, 0])]
        net = Net(2, ["d", "a", "b", "c", "e"], ties)
        self.assertEqual(cores(net), [(["d"], ["o"]), (["a", "b"], ["p", "q"]), (["c"], ["e", "w"])])
        net = Net(2, ["a", "b", "c", "e", "d"], ties)
        self.assertEqual(cores(net=net), [(["a", "b"], ["p", "q"]), (["c"], ["e", "w"]), (["d"], ["o"])])

    def test_none(self):
        self.assertEqual([cores(Net(1, ["a"], [])), cores(Net(1, ["a"], [("e", "a", "a", [1])]))], [[], []])

    def test_ways_keep_to_one_core(self):
        many = 0
        for raw in small_nets(122, 300, most_rooms=4, most_ties=7, most_axes=2, reach=1):
            told = [set(names) for _, names in cores(make(raw))]
            for counts in rays_by_search(raw):
                if hangs([tie for tie in raw[2] if tie[0] in counts]):
                    many += 1
                    self.assertEqual(len([names for names in told if set(counts) <= names]), 1)
        self.assertGreater(many, 200)

    def test_new_each_time(self):
        net = make(STAR)
        told = cores(net)
        told[0][0].append("x")
        told[0][1].clear()
        told.append(None)
        self.assertEqual(cores(net), [(["r"], ["e", "n", "b"])])


class TestMeans(unittest.TestCase):
    def check(self, raw, costs):
        """All that is told of least means, by the rays of each core that the test finds; the kind of net it is."""
        net, before = make(raw), dict(costs)
        least, cheap = least_by_hand(raw, costs)
        told, summed, rounded = cheapest(net, costs), cheap_sum(net, costs), cheap_round(net, costs)
        if least is None:
            self.assertEqual([told, summed, rounded, price(net, costs)], [None] * 4)
            self.assertIsNone(cheaper(net, costs, 10 ** 6, 1))
            return "none"
        self.assertIs(type(told), tuple)
        self.assertEqual([type(number) for number in told], [int, int])
        self.assertEqual(told, (least.numerator, least.denominator), (raw, costs))
        self.assertTrue(sum_holds(raw, summed))
        self.assertEqual(mean_by_hand(summed, costs), told)
        self.assertTrue(any(set(summed) <= set(names) for _, names in cores(net)))
        self.assertIs(rounded is not None, round_exists(raw, cheap), (raw, costs))
        if rounded is not None:
            self.assertTrue(round_holds(raw, rounded))
            self.assertEqual(mean_by_hand(rounded, costs), told)
        self.check_cheaper(raw, costs, least)
        self.assertEqual(costs, before)
        return "sum" if rounded is None else "round"

    def check_cheaper(self, raw, costs, least):
        """A round with a lesser mean is told just for fractions above the least one, near and far."""
        net = make(raw)
        for times in (1, 3, 10 ** 9):
            for more in (-10 ** 12, -1, 0, 1, 5, 10 ** 15):
                above, below = least.numerator * times + more, least.denominator * times
                told = cheaper(net, costs, above, below)
                self.assertIs(told is not None, more > 0, (raw, costs, above, below))
                if told is not None:
                    self.assertTrue(round_holds(raw, told))
                    self.assertLess(sum(told[name] * (below * costs.get(name, 0) - above) for name in told), 0)

    def test_small_nets(self):
        chance = random.Random(123)
        found = []
        for raw in small_nets(124, 500, most_rooms=4, most_ties=7, most_axes=2):
            found.append(self.check(raw, some_costs(chance, raw, chance.choice([0, 1, 5, 10 ** 12 - 1]))))
        self.assertTrue(all(found.count(kind) > 20 for kind in ("none", "round")), found)

    def test_nets_that_close(self):
        chance = random.Random(125)
        for raw in small_nets(126, 300, most_rooms=3, most_ties=8, most_axes=2):
            if closes(make(raw)):
                self.check(raw, some_costs(chance, raw, chance.choice([1, 4, 100])))

    def test_rings_that_lie_apart(self):
        chance = random.Random(129)
        found = []
        for _ in range(150):
            axes = chance.randint(1, 2)
            rooms = ["r%d" % at for at in range(chance.randint(2, 3))]
            links = [("l%d" % at, room, rooms[at - 1], [0] * axes) for at, room in enumerate(rooms)]
            rings = []
            for at, room in enumerate(rooms):
                sign = chance.choice([1, -1])
                for more in range(chance.randint(1, 2)):
                    rings.append(("o%d.%d" % (at, more), room, room, [sign * chance.randint(1, 3) for _ in range(axes)]))
            costs = {tie[0]: chance.randint(1, 3) for tie in links}
            costs.update({tie[0]: chance.randint(-1, 1) for tie in rings})
            found.append(self.check((axes, rooms, links + rings), costs))
        self.assertTrue(all(found.count(kind) > 10 for kind in ("sum", "round")), found)

    def test_two_rings_apart(self):
        for costs, told in (({"s": 3}, (0, 1)), ({"s": 1, "u": -2}, (-1, 1)), ({"t": 7, "d": 1}, (1, 2)),
                            ({"s": 1, "t": 10 ** 12 - 1}, (0, 1))):
            self.assertEqual(cheapest(make(APART), costs), told)
            self.assertEqual(self.check(APART, costs), "sum")
            self.assertIsNone(cheap_round(make(APART), costs))
            self.assertEqual(cheap_sum(make(APART), costs), {"u": 1, "d": 1})
        for costs in ({}, {"s": -1, "t": 1}, {"s": -4, "t": 3}, {"u": 1, "d": 2, "s": 1, "t": 2}):
            self.assertEqual(self.check(APART, costs), "round")

    def test_two_rings_apart_in_a_later_core(self):
        near = [("p", "c", "c", [0]), ("q", "c", "d", [2]), ("r", "d", "c", [-2])]
        for ties in (near + APART[2], APART[2] + near):
            for rooms in (["c", "d", "a", "b"], ["a", "b", "c", "d"], ["a", "c", "d", "b"]):
                raw = (1, rooms, ties)
                self.assertEqual(self.check(raw, {"s": 3, "p": 2, "q": 1}), "sum")
                self.assertEqual(self.check(raw, {"s": 3, "p": 2, "q": -1}), "round")
                self.assertEqual(cheap_sum(make(raw), {"s": 3, "p": 2, "q": 1}), {"u": 1, "d": 1})

    def test_lowest_terms_and_signs(self):
        for reach in (0, 1, 6, -6, 10 ** 12 - 1, 1 - 10 ** 12):
            for name, times in (("e", 2), ("n", 1), ("b", 1)):
                above, below = reach * times, 4
                common = math.gcd(above, below)
                self.assertEqual(cheapest(make(STAR), {name: reach}), (above // common, below // common))
        self.assertEqual(cheapest(make(STAR), {}), (0, 1))
        self.assertEqual(cheapest(make(STAR), {"e": -2, "n": -2, "b": -2}), (-2, 1))
        self.assertEqual(cheapest(make(STAR), {"e": 10 ** 30, "b": -1}), ((2 * 10 ** 30 - 1), 4))

    def test_rings_of_no_step(self):
        ties = [("x", "a", "b", []), ("y", "b", "a", []), ("z", "b", "c", []), ("w", "c", "a", [])]
        net = Net(0, ["a", "b", "c"], ties)
        self.assertEqual(cheapest(net, {"x": 1, "y": 1, "w": 1}), (2, 3))
        self.assertEqual(cheap_round(net, {"x": 1, "y": 1, "w": 1}), {"x": 1, "z": 1, "w": 1})
        self.assertEqual(cheapest(net, {"y": -3}), (-3, 2))
        self.assertEqual(cheapest(net, {"y": -3, "w": -5}), (-5, 3))

    def test_costs_beside_all_cores_do_not_count(self):
        raw = (1, ["a", "b"], [("o", "a", "a", [0]), ("on", "a", "b", [1]), ("l", "b", "b", [1]), ("e", "b", "b", [2])])
        self.assertEqual(self.check(raw, {"on": -100, "l": -7, "e": 5, "o": 3}), "round")
        self.assertEqual(cheapest(make(raw), {"on": -100, "l": -7, "e": 5, "o": 3}), (3, 1))

    def test_sums_of_several_cores_do_not_count(self):
        ties = [("u", "a", "a", [1, 0]), ("v", "b", "b", [-1, 0]), ("on", "a", "b", [0, 1]), ("back", "b", "a", [0, 0]),
                ("p", "a", "a", [-3, 0]), ("q", "b", "b", [9, 0])]
        raw = (2, ["a", "b"], ties)
        costs = {"u": -100, "v": -100}
        self.assertEqual(cheapest(make(raw), costs), (-90, 1))
        self.check(raw, costs)
        self.assertEqual(cheapest(make(raw).without(["q"]), costs), (-75, 1))
        self.assertIsNone(cheapest(make(raw).without(["p", "q"]), costs))

    def test_more_axes_tell_alike(self):
        chance = random.Random(127)
        for raw in small_nets(128, 150, most_rooms=3, most_ties=6, most_axes=2):
            costs = some_costs(chance, raw, 5)
            axes, rooms, ties = raw
            for ahead, behind in ((0, 1), (1, 0), (1, 1), (0, 2)):
                wide = (axes + ahead + behind, rooms, [tie[:3] + ([0] * ahead + list(tie[3]) + [0] * behind,)
                                                       for tie in ties])
                self.assertEqual(cores(make(wide)), cores(make(raw)))
                self.assertEqual(cheapest(make(wide), costs), cheapest(make(raw), costs))
                self.assertEqual(cheap_round(make(wide), costs) is None, cheap_round(make(raw), costs) is None)
                self.check(wide, costs)

    def test_walked(self):
        told = cheaper(make(APART), {"s": 3}, 1, 100)
        way = walked(make(APART), told)
        self.assertLess(sum({"s": 3}.get(name, 0) for name in way) * 100, len(way))

    def test_the_same_each_time_and_new(self):
        net, costs = make(APART), {"s": 3}
        for name, call, more in SIX[1:5]:
            told = call(net, costs, *more)
            self.assertEqual(told, call(make(APART), {"s": 3}, *more), name)
            if isinstance(told, dict):
                told.clear()
                self.assertTrue(call(net, costs, *more), name)

    def test_by_name_in_another_order(self):
        net, costs = make(STAR), {"e": 1}
        self.assertEqual(cheapest(costs=costs, net=net), (1, 2))
        self.assertEqual(mean_by_hand(cheap_sum(costs=costs, net=net), costs), (1, 2))
        self.assertIs(is_round(net, cheap_round(costs=costs, net=net)), True)
        self.assertIs(is_round(net, cheaper(below=1, above=1, costs=costs, net=net)), True)
        self.assertIsNone(cheaper(below=2, above=1, costs=costs, net=net))
        self.assertIs(is_price(thing=price(costs=costs, net=net), costs=costs, net=net), True)


class TestErrors(unittest.TestCase):
    def nets(self):
        return [make(STAR), make(STAR).without(["n"]), make(STAR).only([])]

    def test_no_dict(self):
        for net in self.nets():
            for thing in any_objects() + [[("e", 1)], "e"]:
                if not isinstance(thing, dict):
                    for name, call, more in SIX:
                        raises(self, BadCosts, [("name", None)], lambda: call(net, thing, *more))

    def test_keys_that_name_no_tie(self):
        keys = [0, True, None, "", "r", "E", "zz", ("e",), (), -1, 10 ** 40, ("n", ("e", None)), Desk(make(STAR)), "e "]
        for key in keys:
            for name, call, more in SIX:
                for net in self.nets():
                    raises(self, BadCosts, [("name", key)], lambda: call(net, {key: 1}, *more))
                raises(self, BadCosts, [("name", key)], lambda: call(make(STAR), {"e": 1, key: 1, "n": None}, *more))
                raises(self, BadCosts, [("name", "n")], lambda: call(make(STAR), {"e": 1, "n": None, key: 1}, *more))

    def test_values_that_are_no_integers(self):
        for thing in any_objects():
            if not is_plain_int(thing):
                for name, call, more in SIX:
                    raises(self, BadCosts, [("name", "n")], lambda: call(make(STAR), {"e": 1, "n": thing, 5: 5}, *more))
                    raises(self, BadCosts, [("name", "b")], lambda: call(make(STAR).only(["b"]), {"b": thing}, *more))

    def test_no_numbers(self):
        for net in self.nets():
            for thing in any_objects():
                if not is_plain_int(thing):
                    raises(self, BadNumber, [("number", thing)], lambda: cheaper(net, {}, thing, 1))
                    raises(self, BadNumber, [("number", thing)], lambda: cheaper(net, {}, thing, None))
                if not (is_plain_int(thing) and thing > 0):
                    raises(self, BadNumber, [("number", thing)], lambda: cheaper(net, {}, 1, thing))
                    raises(self, BadNumber, [("number", thing)], lambda: cheaper(below=thing, above=-1, costs={}, net=net))
            raises(self, BadNumber, [("number", None)], lambda: cheaper(net, {}, None, 0))
            raises(self, BadCosts, [("name", 1)], lambda: cheaper(net, {1: 1}, None, 0))
            raises(self, BadCosts, [("name", None)], lambda: cheaper(net, None, None, 0))
            raises(self, BadNumber, [("number", -1)], lambda: cheaper(net, {}, 0, -1))

    def test_any_number_above(self):
        for above in (-10 ** 40, -1, 0, 1, 10 ** 40):
            told = cheaper(make(STAR), {}, above, 1)
            self.assertIs(told is not None, above > 0)


if __name__ == "__main__":
    unittest.main()

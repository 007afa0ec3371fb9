"""Points [3] and [40]: prices, checked by the sums that the point writes out."""

import copy
import random
import unittest

from cost_helpers import cores_by_hand, least_by_hand
from helpers import any_objects, is_plain_int, make, rises_by_hand, small_nets
from repeatnets.costs import cheapest, is_price, price
from repeatnets.levels import parts_of
from repeatnets.nets import Net
from repeatnets.sums import closes

APART = (1, ["a", "b"], [("u", "a", "a", [1]), ("d", "b", "b", [-1]), ("s", "a", "b", [0]), ("t", "b", "a", [0])])
RINGS = (2, ["a", "b", "c"], [("x", "a", "b", [1, 0]), ("y", "b", "a", [-1, 0]), ("on", "b", "c", [0, 0]),
                              ("p", "c", "c", [0, 1]), ("q", "c", "c", [0, -2])])
STAR = (2, ["r"], [("e", "r", "r", [1, 0]), ("n", "r", "r", [0, 1]), ("b", "r", "r", [-2, -1])])


def are_ints(thing, many):
    return isinstance(thing, (list, tuple)) and len(thing) == many and all(map(is_plain_int, thing))


def price_holds(raw, costs, thing):
    """Whether a thing is a price, by [40], lists and tuples counted alike."""
    axes, _, ties = raw
    cores = cores_by_hand(parts_of(make(raw)), ties)
    if not isinstance(thing, (list, tuple)) or len(thing) != 2:
        return False
    fraction, triples = thing
    if not are_ints(fraction, 2) or fraction[1] < 1:
        return False
    if not isinstance(triples, (list, tuple)) or len(triples) != len(cores):
        return False
    for (rooms, names), triple in zip(cores, triples):
        if not isinstance(triple, (list, tuple)) or len(triple) != 3:
            return False
        times, direction, heights = triple
        if not is_plain_int(times) or times < 1 or not are_ints(direction, axes) or not are_ints(heights, len(rooms)):
            return False
        inner = [tie for tie in ties if tie[0] in names]
        for tie, rise in zip(inner, rises_by_hand(rooms, inner, direction, heights)):
            if times * (fraction[1] * costs.get(tie[0], 0) - fraction[0]) + rise < 0:
                return False
    return True


def has_told_kinds(thing):
    """Whether a price is told as a pair of a pair and a list of triples of an integer and two lists."""
    fraction, triples = thing
    return (type(thing) is tuple and type(fraction) is tuple and type(triples) is list
            and all(type(triple) is tuple and [type(one) for one in triple] == [int, list, list] for triple in triples))


def as_lists(thing):
    return [as_lists(one) for one in thing] if isinstance(thing, (list, tuple)) else thing


def as_tuples(thing):
    return tuple(as_tuples(one) for one in thing) if isinstance(thing, (list, tuple)) else thing


def places_in(thing, path=()):
    """The paths to all integers within lists."""
    for at, one in enumerate(thing):
        if isinstance(one, list):
            yield from places_in(one, path + (at,))
        else:
            yield path + (at,)


def changed(thing, path, change):
    told = copy.deepcopy(thing)
    here = told
    for at in path[:-1]:
        here = here[at]
    here[path[-1]] = change(here[path[-1]])
    return told


def some_costs(chance, raw, reach):
    return {tie[0]: chance.randint(-reach, reach) for tie in raw[2] if chance.random() < 0.8}


class TestPrice(unittest.TestCase):
    def check(self, raw, costs):
        net = make(raw)
        told = price(net, costs)
        if told is None:
            self.assertIs(closes(net), False)
            self.assertIsNone(cheapest(net, costs))
            return None
        self.assertTrue(has_told_kinds(told), told)
        self.assertTrue(price_holds(raw, costs, told), (raw, costs, told))
        self.assertIs(is_price(net, costs, told), True)
        self.assertEqual(told[0], cheapest(net, costs))
        self.assertIs(closes(net), True)
        return told

    def test_small_nets(self):
        chance = random.Random(131)
        found = {}
        for raw in small_nets(132, 1500, most_rooms=5, most_ties=9, most_axes=4, reach=2):
            told = self.check(raw, some_costs(chance, raw, chance.choice([0, 2, 10 ** 12 - 1])))
            key = None if told is None else len(told[1])
            found[key] = found.get(key, 0) + 1
        self.assertTrue(all(found.get(key, 0) > 20 for key in (None, 1, 2)), found)

    def test_great_steps(self):
        chance = random.Random(133)
        found = []
        for raw in small_nets(134, 200, most_rooms=3, most_ties=9, most_axes=2, reach=10 ** 15 - 1):
            found.append(self.check(raw, some_costs(chance, raw, 10 ** 12 - 1)))
        self.assertGreater(len([told for told in found if told]), 50)

    def test_by_hand(self):
        self.assertEqual(self.check(APART, {"s": 3})[0], (0, 1))
        told = self.check(RINGS, {"x": 5, "on": -9, "p": 1})
        self.assertEqual([told[0], len(told[1])], [(2, 3), 2])
        self.assertEqual([len(triple[2]) for triple in told[1]], [2, 1])
        self.assertEqual(self.check(STAR, {"b": 10})[0], (5, 2))

    def test_more_axes_tell_alike(self):
        chance = random.Random(135)
        for raw in small_nets(136, 100, most_rooms=3, most_ties=6, most_axes=2):
            costs = some_costs(chance, raw, 5)
            axes, rooms, ties = raw
            wide = (axes + 2, rooms, [tie[:3] + ([0] + list(tie[3]) + [0],) for tie in ties])
            told, other = self.check(raw, costs), self.check(wide, costs)
            if told is not None:
                self.assertEqual(told[0], other[0])
                moved = (told[0], [(times, [7] + direction + [-8], heights) for times, direction, heights in told[1]])
                self.assertIs(is_price(make(wide), costs, moved), True)

    def test_no_price_above_cheapest(self):
        chance = random.Random(137)
        for raw in small_nets(138, 200, most_rooms=3, most_ties=6, most_axes=2):
            costs = some_costs(chance, raw, 3)
            least, _ = least_by_hand(raw, costs)
            told = price(make(raw), costs)
            self.assertIs(told is None, least is None)
            if told is not None:
                (above, below), triples = told
                self.assertEqual((above, below), (least.numerator, least.denominator))
                for times in (1, 2, 10 ** 9):
                    great = [(one, [times * number for number in direction], [times * number for number in heights])
                             for one, direction, heights in triples]
                    self.assertIs(is_price(make(raw), costs, ((above * times, below * times), great)), True)
                    self.assertIs(is_price(make(raw), costs, ((above * times - 1, below * times), great)), True)
                    self.assertIs(is_price(make(raw), costs, ((above * times + 1, below * times), great)), False)

    def test_the_same_each_time_and_new(self):
        net, costs = make(RINGS), {"x": 5}
        told = price(net=net, costs=costs)
        wanted = copy.deepcopy(told)
        self.assertEqual(price(make(RINGS), {"x": 5}), told)
        told[1][0][1].append(1)
        told[1][0][2].clear()
        told[1].clear()
        self.assertEqual(price(net, costs), wanted)
        self.assertEqual([net, costs], [make(RINGS), {"x": 5}])


class TestIsPrice(unittest.TestCase):
    def check(self, raw, costs, thing):
        told = is_price(make(raw), costs, thing)
        self.assertIs(told, price_holds(raw, costs, thing), (raw, costs, thing))
        return told

    def prices(self):
        for raw, costs in ((APART, {"s": 3}), (RINGS, {"x": 5, "on": -9, "p": 1}), (STAR, {"b": 10, "e": -1}), (STAR, {})):
            yield raw, costs, price(make(raw), costs)

    def test_lists_for_tuples(self):
        for raw, costs, told in self.prices():
            for thing in (told, as_lists(told), as_tuples(told), [told[0], told[1]], (list(told[0]), tuple(told[1]))):
                self.assertIs(self.check(raw, costs, thing), True)

    def test_each_number_otherwise(self):
        for raw, costs, told in self.prices():
            found = set()
            for path in places_in(as_lists(told)):
                for change in (lambda one: one + 1, lambda one: one - 1, lambda one: -one, lambda one: one * 10 ** 20,
                               lambda one: 0):
                    found.add(self.check(raw, costs, changed(as_lists(told), path, change)))
                for wrong in (True, False, None, "0", [0], 10 ** 30 + 7):
                    thing = changed(as_lists(told), path, lambda one: wrong)
                    self.assertIs(self.check(raw, costs, thing), type(wrong) is int and price_holds(raw, costs, thing))
            self.assertEqual(found, {True, False})

    def test_times_of_0_and_below(self):
        self.assertIs(self.check(APART, {"s": 3}, ((0, 1), [(1, [0], [0, 0])])), True)
        for times in (0, -1, -10 ** 20, True):
            self.assertIs(self.check(APART, {}, ((0, 1), [(times, [0], [0, 0])])), False)
        for below in (0, -1, True):
            self.assertIs(self.check(APART, {}, ((0, below), [(1, [0], [0, 0])])), False)

    def test_more_and_less(self):
        for raw, costs, told in self.prices():
            (above, below), triples = told
            times, direction, heights = triples[0]
            rest = triples[1:]
            for thing in ((told[0], rest), (told[0], triples + [triples[0]]), (told[0],), told + (0,), (told[0], None),
                          ((above,), triples), ((above, below, 1), triples), (None, triples), (above, triples),
                          (told[0], [(times, direction)] + rest), (told[0], [(times, direction, heights, [])] + rest),
                          (told[0], [(times, direction[:-1], heights)] + rest),
                          (told[0], [(times, direction + [0], heights)] + rest),
                          (told[0], [(times, direction, heights[:-1])] + rest),
                          (told[0], [(times, direction, heights + [0])] + rest),
                          (told[0], [(times, heights, direction)] + rest if len(heights) != len(direction) else []),
                          (told[0], [(times, tuple(direction), {at: 0 for at in range(len(heights))})] + rest),
                          (told[0], [(times, "0" * len(direction), heights)] + rest), (told[0], {0: triples[0]}),
                          (told[0], [triples[0][0]] + rest), (told[0], [None] + rest), {0: told[0], 1: triples}):
                self.assertIs(self.check(raw, costs, thing), False)

    def test_so_many_times_as_great(self):
        for raw, costs, told in self.prices():
            (above, below), triples = told
            for many in (2, 7, 10 ** 40):
                great = [(times * many, [one * many for one in direction], [one * many for one in heights])
                         for times, direction, heights in triples]
                slow = [(times, direction, heights) for (times, _, _), (_, direction, heights) in zip(triples, great)]
                self.assertIs(self.check(raw, costs, ((above, below), great)), True)
                self.assertIs(self.check(raw, costs, ((above * many, below * many), triples)),
                              all(not any(direction + heights) for _, direction, heights in triples))
                self.assertIs(self.check(raw, costs, ((above * many, below * many), slow)), True)
                self.assertIs(self.check(raw, costs, ((above - many, below), triples)), True)
                self.assertIs(self.check(raw, costs, ((above + many, below), triples)), False)
                higher = [(times, direction, [one + many for one in heights]) for times, direction, heights in triples]
                self.assertIs(self.check(raw, costs, ((above, below), higher)), True)

    def test_cores_in_order(self):
        told = price(make(RINGS), {"p": 3, "q": -3, "x": 1})
        self.assertEqual(len(told[1]), 2)
        self.assertIs(self.check(RINGS, {"p": 3, "q": -3, "x": 1}, (told[0], told[1][::-1])), False)

    def test_a_net_without_a_core(self):
        for raw in ((1, ["a"], []), (1, ["a", "b"], [("s", "a", "b", [0]), ("e", "a", "a", [1])])):
            for thing in (((5, 1), []), ((-5, 10), ()), [[0, 1], []], ((10 ** 40, 10 ** 40), [])):
                self.assertIs(self.check(raw, {}, thing), True)
            for thing in (((5, 0), []), ((5, -1), []), ((True, 1), []), ((0, True), []), ((0, 1), [(1, [0], [0])]), ((0, 1), [[]]),
                          ((0, 1), {}), ((0, 1), ""), ((0, 1), None), ((0,), []), ("01", []), ({0: 1}, []), ((0, 1),)):
                self.assertIs(self.check(raw, {}, thing), False)

    def test_objects_of_all_kinds(self):
        bare = (0, ["a"], [])
        ring = (0, ["a"], [("e", "a", "a", [])])
        for thing in any_objects():
            for raw in (bare, ring, STAR, APART, RINGS):
                self.check(raw, {}, thing)
                self.check(raw, {}, ((0, 1), thing))
                self.check(raw, {}, (thing, []))
            for triple in ((thing, [], [0]), (1, thing, [0]), (1, [], thing), thing):
                self.check(ring, {"e": 1}, ((1, 1), [triple]))
            self.check(ring, {"e": 1}, ((thing, 1), [(1, [], [0])]))
            self.check(ring, {"e": 1}, ((1, thing), [(1, [], [0])]))
        self.assertIs(self.check(ring, {"e": 1}, ((1, 1), [(1, [], [0])])), True)

    def test_by_name_in_another_order(self):
        self.assertIs(is_price(thing=((0, 1), [(1, [0], [0, 0])]), costs={"s": 3}, net=make(APART)), True)
        self.assertIs(is_price(thing=((1, 1), [(1, [0], [0, 0])]), costs={"s": 3}, net=make(APART)), False)

    def test_arguments_stay_as_they_are(self):
        net, costs, thing = make(APART), {"s": 3}, [[0, 1], [[1, [0], [0, 0]]]]
        is_price(net, costs, thing)
        self.assertEqual([net, costs, thing], [make(APART), {"s": 3}, [[0, 1], [[1, [0], [0, 0]]]]])

    def test_no_tie_between_cores_counts(self):
        net = Net(*RINGS)
        told = price(net, {"x": 1})
        self.assertIs(is_price(net, {"x": 1, "on": -10 ** 12}, told), True)


if __name__ == "__main__":
    unittest.main()

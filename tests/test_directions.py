"""Points [3], [4] and [36]: least heights and falling rings, against all rings and ways that the test goes itself."""

import itertools
import random
import unittest

from helpers import any_objects, is_plain_int, make, raises, small_nets
from repeatnets.directions import falling, heights, is_falling
from repeatnets.errors import BadPlace
from repeatnets.nets import Net

STAR = (2, ["r"], [("e", "r", "r", [1, 0]), ("n", "r", "r", [0, 1]), ("b", "r", "r", [-2, -1])])
TRIANGLE = (1, ["a", "b", "c"], [("x", "a", "b", [1]), ("y", "b", "c", [2]), ("z", "c", "a", [-4]), ("w", "b", "a", [0]),
                                 ("o", "c", "c", [5]), ("v", "a", "b", [-1])])


def rings_by_search(raw):
    """All rings as lists of names, each begun at each of its rooms."""
    _, rooms, ties = raw
    found = []

    def go(names, rooms_left, here, first):
        for name, start, end, _ in ties:
            if start == here:
                if end == first:
                    found.append(names + [name])
                elif end in rooms_left:
                    go(names + [name], rooms_left - {end}, end, first)

    for room in rooms:
        go([], set(rooms) - {room}, room, room)
    return found


def rise_along(raw, names, direction):
    named = {tie[0]: tie for tie in raw[2]}
    return sum(one * other for name in names for one, other in zip(direction, named[name][3]))


def heights_by_hand(raw, direction):
    """The least heights, if no ring falls: what the ways to each room that go through no room twice fall at most."""
    _, rooms, ties = raw
    told = {room: 0 for room in rooms}

    def go(seen, here, height):
        told[here] = max(told[here], height)
        for _, start, end, step in ties:
            if start == here and end not in seen:
                go(seen | {end}, end, height - sum(one * other for one, other in zip(direction, step)))

    for room in rooms:
        go({room}, room, 0)
    return [told[room] for room in rooms]


class TestBoth(unittest.TestCase):
    def check(self, raw, direction):
        net = make(raw)
        told, ring = heights(net, direction), falling(net, direction)
        rings = rings_by_search(raw)
        falls = [names for names in rings if rise_along(raw, names, direction) < 0]
        self.assertNotEqual(told is None, ring is None, (raw, direction))
        if falls:
            self.assertIs(type(ring), list)
            self.assertIn(ring, falls)
        else:
            self.assertIs(type(told), list)
            self.assertTrue(all(is_plain_int(number) for number in told))
            self.assertEqual(told, heights_by_hand(raw, direction), (raw, direction))
        for names in rings:
            self.assertIs(is_falling(net, direction, names), names in falls)
            self.assertIs(is_falling(net, direction, tuple(names)), names in falls)
        return bool(falls)

    def test_small_nets(self):
        chance = random.Random(111)
        found = [self.check(raw, [chance.randint(-2, 2) for _ in range(raw[0])])
                 for raw in small_nets(112, 1500, most_rooms=5, most_ties=8, most_axes=3, reach=3)]
        self.assertGreater(sum(found), 300)
        self.assertGreater(len(found) - sum(found), 300)

    def test_great_numbers(self):
        chance = random.Random(113)
        found = []
        for raw in small_nets(114, 300, most_rooms=5, most_ties=8, most_axes=4, reach=10 ** 15 - 1):
            found.append(self.check(raw, tuple(chance.randint(-10 ** 30, 10 ** 30) for _ in range(raw[0]))))
        self.assertEqual(set(found), {True, False})

    def test_rings_that_just_fall_and_just_do_not(self):
        far = 10 ** 40
        for more in (-1, 0, 1):
            ties = [("x", "a", "b", [far]), ("y", "b", "c", [-3 * far]), ("z", "c", "a", [2 * far + more])]
            raw = (1, ["a", "b", "c"], ties)
            self.assertIs(self.check(raw, [1]), more < 0)
            self.assertIs(self.check(raw, [-7]), more > 0)

    def test_a_direction_of_noughts(self):
        for raw in small_nets(115, 60, most_rooms=4, most_ties=7, most_axes=4, reach=3):
            noughts = [0] * raw[0]
            self.assertIs(self.check(raw, noughts), False)
            self.assertEqual(heights(make(raw), noughts), [0] * len(raw[1]))

    def test_without_ties_and_without_axes(self):
        for axes in range(5):
            self.assertEqual(heights(Net(axes, ["a", "b"], []), [5] * axes), [0, 0])
            self.assertIsNone(falling(Net(axes, ["a"], []), [-5] * axes))
            self.assertIs(is_falling(Net(axes, ["a"], []), [-5] * axes, []), False)
        raw = (0, ["a", "b"], [("s", "a", "b", []), ("t", "b", "a", []), ("o", "a", "a", [])])
        self.assertIs(self.check(raw, []), False)
        self.assertIs(self.check(raw, ()), False)

    def test_the_same_each_time_and_new(self):
        net = make(TRIANGLE)
        told = falling(net, [1])
        self.assertEqual(told, falling(make(TRIANGLE), (1,)))
        wanted = list(told)
        told.clear()
        self.assertEqual(falling(net, [1]), wanted)
        lean = net.without(["z", "v"])
        told = heights(lean, [1])
        told.append(7)
        self.assertEqual(heights(lean, [1]), [0, 0, 0])


class TestHeights(unittest.TestCase):
    def test_by_hand(self):
        ties = [("x", "a", "b", [-2]), ("y", "b", "c", [-3]), ("w", "a", "c", [-4]), ("o", "c", "c", [0]), ("u", "d", "c", [9])]
        net = Net(1, ["a", "b", "c", "d"], ties)
        self.assertEqual(heights(net, [1]), [0, 2, 5, 0])
        self.assertEqual(heights(direction=(-1,), net=net), [0, 0, 9, 0])
        self.assertEqual(heights(net, [2]), [0, 4, 10, 0])
        self.assertEqual(heights(~net, [1]), [0, 0, 0, 9])
        self.assertEqual(heights(~net, [-1]), [5, 3, 0, 0])

    def test_some_room_is_at_0(self):
        for raw in small_nets(116, 100, most_rooms=4, most_ties=5, most_axes=2, reach=2):
            told = heights(make(raw), [1] * raw[0])
            self.assertTrue(told is None or min(told) == 0)


class TestFalling(unittest.TestCase):
    def test_by_hand(self):
        net = make(TRIANGLE)
        self.assertIn(falling(net.without(["v"]), [1]), (["x", "y", "z"], ["y", "z", "x"], ["z", "x", "y"]))
        self.assertIn(falling(net, [-1]), (["o"], ["w", "x"], ["x", "w"]))
        self.assertEqual(falling(net.without(["x"]), [-1]), ["o"])
        self.assertIsNone(falling(net.without(["z", "v"]), [1]))
        self.assertEqual(sorted(falling(direction=[1], net=net.without(["z"]))), ["v", "w"])

    def test_is_falling(self):
        net = make(TRIANGLE)
        for names in (["x", "y", "z"], ["y", "z", "x"], ("z", "x", "y"), ["v", "w"], ["w", "v"], ["v", "y", "z"]):
            self.assertIs(is_falling(net, [1], names), True, names)
            self.assertIs(is_falling(net, [-1], names), False, names)
        self.assertIs(is_falling(net, [-1], ["o"]), True)
        self.assertIs(is_falling(thing=["o"], direction=[-1], net=net), True)

    def test_rings_that_do_not_fall(self):
        net = make(TRIANGLE)
        for names in (["x", "w"], ["w", "x"], ["o"]):
            self.assertIs(is_falling(net, [1], names), False)
            self.assertIs(is_falling(net, [0], names), False)
        raw = (1, ["a", "b"], [("s", "a", "b", [3]), ("t", "b", "a", [-3])])
        self.assertIs(is_falling(make(raw), [1], ["s", "t"]), False)
        self.assertIs(is_falling(make(raw).more([("u", "b", "a", [-4])]), [1], ["s", "u"]), True)

    def test_no_rings(self):
        net = make(TRIANGLE)
        rows = [["z", "v", "w", "v", "y"], ["v", "w", "v", "w"], ["z", "x", "y", "o"], ["o", "o"], ["z"], ["z", "y"],
                ["x", "y"], ["y", "z"], ["z", "z", "z"], ["v", "v"], [], (), ["z", "x", "y", "z", "x", "y"], ["none"],
                ["x", "y", "none"], ["x", "y", ["z"]], "z", "xyz", {"v": 1, "w": 1}, [("v", "w")], ["v", None, "w"],
                ["x", "w", "v", "w"], ["v", "y", "z", "x", "w"]]
        for thing in rows + any_objects():
            for direction in ([1], [-1], [0]):
                if not (thing in (["o"], ("o",)) and direction == [-1]):
                    self.assertIs(is_falling(net, direction, thing), False, thing)

    def test_objects_of_all_kinds_where_some_names_are_rings(self):
        net = Net(1, ["a"], [("e", "a", "a", [-1]), ("a", "a", "a", [-2])])
        for thing in any_objects():
            self.assertIs(is_falling(net, [1], thing), thing in (["e"], ("e",)))

    def test_each_row_of_names(self):
        raw = (1, ["a", "b"], [("s", "a", "b", [-1]), ("t", "b", "a", [0]), ("o", "a", "a", [-1])])
        wanted = [["s", "t"], ["t", "s"], ["o"]]
        for length in range(4):
            for names in itertools.product("sto", repeat=length):
                self.assertIs(is_falling(make(raw), [1], names), list(names) in wanted)
                self.assertIs(is_falling(make(raw), [1], list(names)), list(names) in wanted)


class TestErrors(unittest.TestCase):
    def test_no_direction(self):
        for axes in (0, 1, 2, 3, 4):
            net = Net(axes, ["a"], [("e", "a", "a", [0] * axes)])
            for thing in any_objects() + [[0] * (axes + 1), [1] * (axes - 1), [1, None], [True, 0], "00", {0: 1}]:
                if isinstance(thing, (list, tuple)) and len(thing) == axes and all(map(is_plain_int, thing)):
                    self.assertEqual(heights(net, thing), [0])
                    self.assertIsNone(falling(net, thing))
                    self.assertIs(is_falling(net, thing, ["e"]), False)
                else:
                    raises(self, BadPlace, [("thing", thing)], lambda: heights(net, thing))
                    raises(self, BadPlace, [("thing", thing)], lambda: falling(direction=thing, net=net))
                    raises(self, BadPlace, [("thing", thing)], lambda: is_falling(net, thing, ["e"]))
                    raises(self, BadPlace, [("thing", thing)], lambda: is_falling(thing=None, direction=thing, net=net))

    def test_arguments_stay_as_they_are(self):
        net, direction, thing = make(STAR), [1, -2], ["e"]
        heights(net, direction), falling(net, direction), is_falling(net, direction, thing)
        self.assertEqual([net, direction, thing], [make(STAR), [1, -2], ["e"]])


if __name__ == "__main__":
    unittest.main()

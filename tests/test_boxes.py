"""Points [3] and [21] to [24]: boxes, ways within them, and the least ones."""

import itertools
import math
import random
import unittest

from helpers import any_objects, is_plain_int, make, raises, small_nets
from repeatnets.boxes import box_way, boxed, is_box_way, least_boxes, longest_way
from repeatnets.errors import BadNumber, BadSizes, NoAxis
from repeatnets.nets import Net
from repeatnets.sums import closes

STAR = (2, ["r"], [("e", "r", "r", [1, 0]), ("n", "r", "r", [0, 1]), ("b", "r", "r", [-2, -1])])


def places_in(sizes):
    return list(itertools.product(*[range(size) for size in sizes]))


def links_in(raw, sizes):
    """For each hall of the box the pairs of a tie's name and the hall to which it leads, by [21]."""
    axes, rooms, ties = raw
    halls = [(room, place) for room in rooms for place in places_in(sizes)]
    links = {hall: [] for hall in halls}
    for name, start, end, step in ties:
        for room, place in halls:
            other = (end, tuple(one + more for one, more in zip(place, step)))
            if room == start and other in links:
                links[(room, place)].append((name, other))
    return links


def ways_back(links, first):
    """The number of ties of a shortest way from a hall back to it, None if there is none."""
    found, edge, length = {first}, [first], 0
    while edge:
        length += 1
        ahead = []
        for hall in edge:
            for _, other in links[hall]:
                if other == first:
                    return length
                if other not in found:
                    found.add(other)
                    ahead.append(other)
        edge = ahead
    return None


def shortest(links):
    return min((length for length in (ways_back(links, hall) for hall in links) if length is not None), default=None)


def longest(links):
    """By going on from halls as long as anything still grows: a way with more ties than halls comes back."""
    length = {hall: 0 for hall in links}
    for _ in range(len(links) + 1):
        longer = {hall: max((length[other] + 1 for _, other in links[hall]), default=0) for hall in links}
        if longer == length:
            return max(length.values())
        length = longer
    return None


def way_in_box(raw, sizes, thing):
    """Whether a pair of the very kinds that are told is a closed way in the box: gone tie by tie."""
    links = links_in(raw, sizes)
    if type(thing) is not tuple or len(thing) != 2 or type(thing[0]) is not tuple or type(thing[1]) is not list:
        return False
    hall, names = thing
    if hall not in links or type(hall[1]) is not tuple or not names:
        return False
    here = hall
    for name in names:
        onward = dict(links[here])
        if name not in onward:
            return False
        here = onward[name]
    return here == hall


def least_by_look(raw, most):
    """All least sizes up to most: of all boxes, the closing ones within which no lesser one closes."""
    closing = [sizes for sizes in itertools.product(range(1, most + 1), repeat=raw[0])
               if longest(links_in(raw, sizes)) is None]
    return [sizes for sizes in closing
            if not any(other != sizes and all(one <= top for one, top in zip(other, sizes)) for other in closing)]


def all_sizes(axes, most):
    return itertools.product(range(1, most + 1), repeat=axes)


class TestWays(unittest.TestCase):
    def check(self, raw, sizes):
        net = make(raw)
        links = links_in(raw, sizes)
        told = box_way(net, sizes)
        least = shortest(links)
        if least is None:
            self.assertIsNone(told)
        else:
            self.assertTrue(way_in_box(raw, sizes, told), (raw, sizes, told))
            self.assertEqual(len(told[1]), least, (raw, sizes))
            self.assertIs(is_box_way(net, sizes, told), True)
        most = longest_way(net, sizes)
        self.assertEqual(most, longest(links), (raw, sizes))
        self.assertEqual(most is None, told is not None)
        self.assertTrue(most is None or is_plain_int(most))
        return least

    def test_star(self):
        net = make(STAR)
        self.assertEqual([longest_way(net, [2, 2]), box_way(net, [2, 2])], [2, None])
        self.assertEqual([longest_way(net, [3, 1]), longest_way(net, [1, 5]), longest_way(net, [1, 1])], [2, 4, 0])
        self.assertIsNone(longest_way(net, [3, 2]))
        (room, place), names = box_way(net, [3, 2])
        self.assertEqual([room, len(place), sorted(names)], ["r", 2, ["b", "e", "e", "n"]])
        self.check(STAR, (3, 2))
        self.check(STAR, (6, 6))

    def test_all_boxes(self):
        found = {}
        for raw in small_nets(41, 250, most_rooms=3, most_ties=5, most_axes=2, reach=2):
            for sizes in all_sizes(raw[0], 4):
                least = self.check(raw, sizes)
                found[least] = found.get(least, 0) + 1
        self.assertTrue(all(found.get(length, 0) > 5 for length in (None, 1, 2, 3, 4)), found)

    def test_three_and_four_axes(self):
        for raw in small_nets(42, 60, most_rooms=2, most_ties=6, most_axes=4):
            for sizes in ((2, 1, 3, 2), (1, 3, 2, 2), (3, 2, 2, 1)):
                self.check(raw, sizes[:raw[0]])

    def test_no_axes(self):
        ties = [("s", "a", "b", []), ("t", "b", "c", []), ("u", "c", "a", [])]
        ring = Net(0, ["a", "b", "c"], ties)
        self.check((0, ["a", "b", "c"], ties), ())
        self.assertEqual(box_way(ring, [])[0][1], ())
        self.assertEqual(len(box_way(ring, ())[1]), 3)
        self.assertEqual(longest_way(ring.without(["u"]), []), 2)
        self.assertEqual([longest_way(ring.only([]), []), box_way(ring.only([]), [])], [0, None])
        self.assertIs(is_box_way(ring, [], (("a", ()), ["s", "t", "u"])), True)
        self.assertIs(is_box_way(ring, [], [["b", []], ("t", "u", "s")]), True)

    def test_a_box_of_one_place(self):
        net = Net(1, ["a", "b"], [("s", "a", "b", [0]), ("t", "b", "a", [1]), ("u", "b", "a", [-1])])
        self.assertEqual([box_way(net, [1]), longest_way(net, [1])], [None, 1])
        self.assertEqual(len(box_way(net, [2])[1]), 4)
        still = net.more([("z", "b", "b", [0])])
        self.assertEqual([box_way(still, [1]), longest_way(still, [1])], [(("b", (0,)), ["z"]), None])

    def test_far_steps_lead_out_of_all_boxes(self):
        far = 10 ** 15 - 1
        net = Net(1, ["a"], [("s", "a", "a", [far]), ("t", "a", "a", [-far])])
        self.assertEqual([box_way(net, [200]), longest_way(net, [200]), is_box_way(net, [200], (("a", (0,)), ["s", "t"]))],
                         [None, 0, False])

    def test_new_each_time(self):
        net = make(STAR)
        told = box_way(net, [3, 2])
        box_way(net, [3, 2])[1].append("x")
        self.assertEqual(box_way(net, [3, 2]), told)

    def test_by_name(self):
        net = make(STAR)
        self.assertEqual(box_way(net=net, sizes=[3, 2]), box_way(net, (3, 2)))
        self.assertEqual(longest_way(net=net, sizes=(2, 2)), 2)
        self.assertIs(is_box_way(net=net, sizes=[3, 2], thing=box_way(net, [3, 2])), True)


class TestIsBoxWay(unittest.TestCase):
    def test_all_short_pairs(self):
        raw = (1, ["a", "b"], [("s", "a", "b", [1]), ("t", "b", "a", [-1]), ("u", "b", "b", [1])])
        for size in (1, 2, 3):
            for room in ("a", "b"):
                for number in range(-1, 4):
                    for length in range(5):
                        for names in itertools.product(("s", "t", "u"), repeat=length):
                            pair = ((room, (number,)), list(names))
                            self.assertIs(is_box_way(make(raw), [size], pair), way_in_box(raw, (size,), pair), pair)

    def test_long_ones(self):
        self.assertIs(is_box_way(make(STAR), [3, 2], (("r", (0, 0)), ["e", "e", "n", "b"] * 50)), True)
        self.assertIs(is_box_way(make(STAR), [3, 2], (("r", (0, 0)), ["e", "e", "n", "b"] * 50 + ["e"])), False)

    def test_each_hall_lies_in_the_box(self):
        net = make(STAR)
        for sizes, place, names, told in (
                ([3, 2], (0, 0), ["e", "e", "n", "b"], True), ([3, 2], (0, 0), ["n", "e", "e", "b"], True),
                ([2, 2], (0, 0), ["e", "e", "n", "b"], False), ([3, 1], (0, 0), ["e", "e", "n", "b"], False),
                ([3, 2], (1, 0), ["e", "e", "n", "b"], False), ([4, 2], (1, 0), ["e", "e", "n", "b"], True),
                ([3, 2], (2, 1), ["b", "e", "e", "n"], True), ([3, 2], (2, 0), ["b", "e", "e", "n"], False),
                ([3, 2], (-1, 0), ["e", "e", "n", "b"], False), ([3, 2], (3, 0), ["e", "e", "n", "b"], False),
                ([3, 2], (0, 2), ["e", "e", "n", "b"], False), ([3, 2], (0, -1), ["e", "e", "n", "b"], False),
                ([9, 9], (4, 4), ["b", "n", "e", "e"], True), ([9, 9], (1, 4), ["b", "n", "e", "e"], False)):
            self.assertIs(is_box_way(net, sizes, (("r", place), names)), told, (sizes, place, names))

    def test_kinds(self):
        net = make(STAR)
        for thing in ([["r", [0, 0]], ["e", "e", "n", "b"]], (("r", (0, 0)), ("e", "e", "n", "b"))):
            self.assertIs(is_box_way(net, (3, 2), thing), True)
        good = ["e", "e", "n", "b"]
        for thing in any_objects() + [
                (("r", (0, 0)), []), (("r", (0, 0)), "eenb"), (("r", (0, 0)), good, 0), (("r", (0, 0)),), ("r", good),
                (("r", (0,)), good), (("r", (0, 0, 0)), good), (("r", (False, 0)), good), (("r", "00"), good),
                (("x", (0, 0)), good), ((["r"], (0, 0)), good), ((None, (0, 0)), good), (("r",), good), (None, good),
                (("r", (0, 0)), [["e"], "e", "n", "b"]), (("r", (0, 0)), ["e", "e", "n", "x"]), (("r", None), good),
                (("r", (0, 0), 0), good), {"r": (0, 0)}, (("r", (0, 0)), {"e": 1, "n": 2}), (net, good), ((net, (0, 0)), good),
                (("r", (0, 0)), [net])]:
            self.assertIs(is_box_way(net, [3, 2], thing), False, thing)

    def test_names_that_do_not_hang_on(self):
        net = Net(0, ["a", "b"], [("s", "a", "b", []), ("t", "b", "a", []), ("u", "a", "a", [])])
        for room, names, told in (("a", ["u"], True), ("b", ["u"], False), ("a", ["s", "t"], True), ("b", ["s", "t"], False),
                                  ("b", ["t", "u", "s"], True), ("a", ["s"], False), ("a", ["s", "s"], False),
                                  ("a", ["s", "u"], False), ("a", ["u", "s", "t", "u", "u"], True)):
            self.assertIs(is_box_way(net, [], ((room, ()), names)), told)


class TestSizes(unittest.TestCase):
    def test_bad_sizes(self):
        for axes in range(4):
            net = Net(axes, ["a"], [("t", "a", "a", [0] * axes)])
            way = (("a", (0,) * axes), ["t"])
            for thing in any_objects() + [[1] * (axes + 1), [0] * axes, [1] * (axes - 1), [1, 1, 0], [2, True, 1],
                                          "1" * axes, {1: 1}, [1, "1"], [2, 2, -1], [2, 2, 2.0]]:
                if (isinstance(thing, (list, tuple)) and len(thing) == axes
                        and all(is_plain_int(number) and number >= 1 for number in thing)):
                    self.assertIs(is_box_way(net, thing, way), True)
                    continue
                for call in (box_way, longest_way, lambda net, thing: is_box_way(net, thing, way),
                             lambda net, thing: is_box_way(net, thing, None)):
                    raises(self, BadSizes, [("sizes", thing)], lambda: call(net, thing))


class TestBoxed(unittest.TestCase):
    def check(self, net, raw):
        self.assertIs(type(net), Net)
        self.assertEqual((net.axes, net.rooms(), net.ties()), raw)

    def test_rows(self):
        raw = (2, ["a", "b"], [("t", "a", "b", [-1, 9]), ("s", "b", "b", [2, -4]), ("o", "a", "a", [0, 1])])
        self.check(boxed(make(raw), 0, 3), (1, ["a.0", "a.1", "a.2", "b.0", "b.1", "b.2"], [
            ("t.1", "a.1", "b.0", (9,)), ("t.2", "a.2", "b.1", (9,)), ("s.0", "b.0", "b.2", (-4,)),
            ("o.0", "a.0", "a.0", (1,)), ("o.1", "a.1", "a.1", (1,)), ("o.2", "a.2", "a.2", (1,))]))
        self.check(boxed(net=make(raw), axis=1, size=2), (1, ["a.0", "a.1", "b.0", "b.1"], [
            ("o.0", "a.0", "a.1", (0,))]))
        self.check(boxed(make(raw), 1, 1), (1, ["a.0", "b.0"], []))
        self.check(boxed(make(raw), 0, 1), (1, ["a.0", "b.0"], [("o.0", "a.0", "a.0", (1,))]))

    def test_all(self):
        for raw in small_nets(43, 80, most_axes=4, reach=3):
            for axis, size in itertools.product(range(raw[0]), (1, 2, 5, 40)):
                rows = []
                for name, start, end, step in raw[2]:
                    for j, i in itertools.product(range(size), range(size)):
                        if i == j + step[axis]:
                            rows.append(("%s.%d" % (name, j), "%s.%d" % (start, j), "%s.%d" % (end, i),
                                         tuple(step[:axis] + step[axis + 1:])))
                self.check(boxed(make(raw), axis, size),
                           (raw[0] - 1, ["%s.%d" % (room, j) for room in raw[1] for j in range(size)], rows))

    def test_fact(self):
        for raw in small_nets(44, 120, most_ties=5, most_axes=2):
            for axis in range(raw[0]):
                for size in (1, 2, 3):
                    sizes = [12, 12][:raw[0]]
                    sizes[axis] = size
                    told = longest(links_in(raw, sizes)) is None
                    self.assertIs(closes(boxed(make(raw), axis, size)), told, (raw, axis, size))

    def test_errors(self):
        for axes in (0, 1, 3):
            net = Net(axes, ["a"], [])
            for thing in any_objects() + [axes, -1, "0", 0.0]:
                if not is_plain_int(thing) or not 0 <= thing < axes:
                    raises(self, NoAxis, [("axis", thing)], lambda: boxed(net, thing, 1))
                    raises(self, NoAxis, [("axis", thing)], lambda: boxed(net, thing, None))
        net = Net(2, ["a"], [])
        for thing in any_objects() + [0, 41, "1", 1.0]:
            if not is_plain_int(thing) or not 1 <= thing <= 40:
                raises(self, BadNumber, [("number", thing)], lambda: boxed(net, 1, thing))


class TestLeastBoxes(unittest.TestCase):
    def check(self, raw, most):
        told = least_boxes(make(raw))
        self.assertIs(type(told), list)
        self.assertTrue(all(type(sizes) is tuple and all(map(is_plain_int, sizes)) for sizes in told))
        self.assertEqual(told, sorted(told))
        self.assertEqual([sizes for sizes in told if max(sizes, default=0) <= most], least_by_look(raw, most), raw)
        self.assertEqual(bool(told), closes(make(raw)))
        for sizes in told:
            if math.prod(sizes) <= 150:
                self.assertIsNone(longest(links_in(raw, sizes)))
                for axis, size in enumerate(sizes):
                    if size > 1:
                        self.assertIsNotNone(longest(links_in(raw, sizes[:axis] + (size - 1,) + sizes[axis + 1:])))
        return told

    def test_one_room_with_two_steps(self):
        for east, west in itertools.product(range(1, 11), repeat=2):
            net = Net(1, ["a"], [("e", "a", "a", [east]), ("w", "a", "a", [-west])])
            self.assertEqual(least_boxes(net), [(east + west - math.gcd(east, west) + 1,)])

    def test_one_axis(self):
        for raw in small_nets(45, 200, most_ties=5, most_axes=1, reach=3):
            self.check(raw, 12)

    def test_two_axes(self):
        for raw in small_nets(46, 100, most_rooms=3, most_ties=6, most_axes=2, reach=2):
            self.check(raw, 6)
        chance = random.Random(49)
        many = []
        for at in range(80):
            rooms = ["a", "b"][:1 + at % 2]
            ties = [("t%d" % k, rooms[k % len(rooms)], rooms[(k + 1) % len(rooms)],
                     [chance.randint(-3, 3), chance.randint(-3, 3)]) for k in range(6)]
            many.append(len(self.check((2, rooms, ties), 7)))
        self.assertGreater(len([one for one in many if one > 1]), 20)
        self.assertGreater(max(many), 3)

    def test_three_axes(self):
        for raw in small_nets(47, 60, most_rooms=2, most_ties=6, most_axes=3):
            self.check(raw, 3)

    def test_boxes_of_many_shapes(self):
        one = Net(2, ["r"], [("e", "r", "r", [2, 3]), ("w", "r", "r", [-2, 1]), ("s", "r", "r", [1, -3])])
        two = Net(2, ["r"], [("e", "r", "r", [1, 1]), ("w", "r", "r", [-1, 0]), ("s", "r", "r", [0, -1]),
                             ("f", "r", "r", [5, 0]), ("g", "r", "r", [0, 4])])
        self.check((2, ["r"], one.ties()), 9)
        self.assertEqual(self.check((2, ["r"], two.ties()), 7), [(1, 5), (2, 2), (6, 1)])

    def test_none(self):
        for raw in ((1, ["a"], [("s", "a", "a", [1]), ("t", "a", "a", [2])]), (2, ["a", "b"], []),
                    (0, ["a", "b"], [("s", "a", "b", [])]), (1, ["a"], [("s", "a", "a", [10 ** 15 - 1])])):
            self.assertEqual(least_boxes(make(raw)), [])

    def test_no_axes(self):
        self.assertEqual(least_boxes(net=Net(0, ["a"], [("s", "a", "a", [])])), [()])
        self.assertEqual(least_boxes(Net(0, ["a"], [])), [])

    def test_of_what_boxed_tells(self):
        for raw in small_nets(48, 60, most_rooms=2, most_ties=5, most_axes=2, reach=2):
            for axis, size in itertools.product(range(raw[0]), (1, 2, 4)):
                net = boxed(make(raw), axis, size)
                self.check((net.axes, net.rooms(), [tie[:3] + (list(tie[3]),) for tie in net.ties()]), 8)

    def test_new_each_time(self):
        net = make(STAR)
        least_boxes(net).clear()
        self.assertEqual(least_boxes(net), [(3, 2)])


if __name__ == "__main__":
    unittest.main()

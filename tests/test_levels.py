"""Points [3] and [13] to [16]: levels, parts, depth, rank."""

import itertools
import unittest

from helpers import (any_objects, depth_of_levels, is_plain_int, leads, levels_hold, make, parts_by_hand, raises,
                     rises_by_hand, small_nets, sums_by_search)
from repeatnets.errors import BadLevels, BadPlace, NoRoom
from repeatnets.levels import depth, is_levels, levels_of, parts_of, rank
from repeatnets.nets import Net
from repeatnets.sums import closes

TWO = (2, ["a", "b"], [("u", "a", "a", [3, 0]), ("v", "b", "b", [-5, 0]), ("s", "a", "b", [0, 1]),
                       ("t", "b", "a", [0, 0])])
PAPER = [(["a", "b"], [0, 1], [0, 0], [(["a"], [1, 0], [0], []), (["b"], [-1, 0], [0], [])])]


def deep_net(axes):
    """A net with a level below a level, as many as there are axes: parts of one room, of two, of four and so on.

    On each level two like nets are joined by ties there and back, one of which rises on a further axis, and the
    two have rings that cancel one another, so that nothing else rises above them.
    """
    many = 2 ** (axes - 1)
    rooms = ["r%d" % at for at in range(many)]
    ties = []
    for at, room in enumerate(rooms):
        step = [0] * axes
        step[0] = -1 if at % 2 else 1
        ties.append(("o%d" % at, room, room, step))
    for axis in range(1, axes):
        size = 2 ** axis
        for at in range(0, many, size):
            step = [0] * axes
            step[axis] = -1 if at // size % 2 else 1
            half = rooms[at + size // 2]
            ties.append(("u%d.%d" % (axis, at), rooms[at], half, step))
            ties.append(("d%d.%d" % (axis, at), half, rooms[at], [0] * axes))
    return axes, rooms, ties


class TestLevels(unittest.TestCase):
    def test_told_levels_hold(self):
        for raw in (TWO, (0, ["a", "b"], [("p", "a", "b", [])]), (4, ["a"], [("o", "a", "a", [0, 0, 0, -1])]),
                    (1, ["a", "b"], [("p", "a", "b", [5]), ("q", "b", "a", [-4])])):
            told = levels_of(make(raw))
            self.assertTrue(levels_hold(raw[0], raw[1], raw[2], told), raw)
            self.assertIs(is_levels(make(raw), told), True)

    def test_no_parts(self):
        for raw in ((0, ["a"], []), (4, ["a", "b"], []), (2, ["a", "b", "c"], [("p", "a", "b", [1, 1]),
                                                                               ("q", "b", "c", [0, 0])])):
            net = make(raw)
            self.assertEqual([levels_of(net), parts_of(net), depth(net)], [[], [], 0])
            self.assertIs(is_levels(net, []), True)
            self.assertIs(is_levels(net, ()), True)
            self.assertIs(is_levels(net, PAPER), False)

    def test_none_if_the_net_closes(self):
        for raw in ((0, ["a"], [("o", "a", "a", [])]), (1, ["a"], [("x", "a", "a", [1]), ("y", "a", "a", [-2])]),
                    (2, ["a", "b"], TWO[2] + [("w", "b", "b", [5, 0])])):
            net = make(raw)
            self.assertEqual([levels_of(net), depth(net)], [None, None])
            self.assertIs(is_levels(net, []), False)

    def test_level_below_level(self):
        for axes in (1, 2, 3, 4):
            raw = deep_net(axes)
            net = make(raw)
            self.assertIs(closes(net), False)
            self.assertEqual(depth(net), axes)
            told = levels_of(net)
            self.assertTrue(levels_hold(raw[0], raw[1], raw[2], told))
            self.assertEqual(depth_of_levels(told), axes)

    def test_a_part_that_closes_below_levels(self):
        raw = deep_net(3)
        net = make((3, raw[1], raw[2] + [("w", "r1", "r1", [2, 0, 0])]))
        self.assertEqual([closes(net), depth(net), levels_of(net)], [True, None, None])
        self.assertEqual(parts_of(net)[0][1], ["u2.0", "d2.0"])
        self.assertEqual(parts_of(net)[0][2][0], (["r0", "r1"], ["u1.0", "d1.0"], [(["r0"], ["o0"], []), (["r1"], [], [])]))

    def test_same_and_new_each_time(self):
        for tell in (levels_of, parts_of):
            net = make(TWO)
            told = tell(net)
            told[0][0].clear()
            told[0][1].clear()
            told[0][2].clear()
            told.clear()
            self.assertEqual(tell(net), tell(make(TWO)))
            self.assertEqual(len(tell(net)), 1)
            self.assertEqual(net, make(TWO))
        self.assertTrue(levels_hold(2, TWO[1], TWO[2], levels_of(net=make(TWO))))

    def test_small_nets(self):
        many = 0
        for raw in small_nets(21, 600, most_rooms=4, most_ties=6, most_axes=3, reach=2):
            told = levels_of(make(raw))
            if told is not None:
                many += 1
                self.assertTrue(levels_hold(raw[0], raw[1], raw[2], told), raw)
                self.assertIs(is_levels(make(raw), told), True)
        self.assertGreater(many, 100)


class TestAreLevels(unittest.TestCase):
    def yes(self, thing, raw=TWO):
        self.assertIs(is_levels(make(raw), thing), True)

    def no(self, thing, raw=TWO):
        self.assertIs(is_levels(make(raw), thing), False)

    def test_lists_and_tuples_count_alike(self):
        self.yes(PAPER)
        self.yes((PAPER[0],))
        self.yes([list(PAPER[0])])
        self.yes(((("a", "b"), (0, 1), (0, 0), ([("a",), (1, 0), (0,), ()], (["b"], [-1, 0], [0], []))),))
        self.assertIs(is_levels(net=make(TWO), thing=PAPER), True)

    def test_others_by_direction_and_heights(self):
        lower = PAPER[0][3]
        self.yes([(["a", "b"], [0, 3], [4, 4], [(["a"], [9, -5], [-7], []), (["b"], [-2, 10 ** 40], [1], [])])])
        self.yes([(["a", "b"], [0, 1], [7, 7], lower)])
        self.yes([(["a", "b"], [0, 2], [1, 0], lower)])

    def test_all_that_can_be_wrong(self):
        lower = PAPER[0][3]
        self.no([])
        self.no(PAPER + PAPER)
        self.no([(["a", "b"], [0, 1], [0, 0], [])])
        self.no([(["a", "b"], [0, 1], [0, 0], lower[::-1])])
        self.no([(["a", "b"], [0, 1], [0, 0], lower[:1])])
        self.no([(["b", "a"], [0, 1], [0, 0], lower)])
        self.no([(["a"], [0, 1], [0, 0], lower)])
        self.no([(["a", "b", "c"], [0, 1], [0, 0, 0], lower)])
        self.no([("ab", [0, 1], [0, 0], lower)])
        self.no([(["a", "b"], [0, 0], [0, 0], lower)])
        self.no([(["a", "b"], [0, -1], [0, 0], lower)])
        self.no([(["a", "b"], [1, 1], [0, 0], lower)])
        self.no([(["a", "b"], [0, 1], [0, 1], lower)])
        self.no([(["a", "b"], [0, 1], [0], lower)])
        self.no([(["a", "b"], [0, 1], [0, 0, 0], lower)])
        self.no([(["a", "b"], [0, 1, 0], [0, 0], lower)])
        self.no([(["a", "b"], [1], [0, 0], lower)])
        self.no([(["a", "b"], [False, True], [0, 0], lower)])
        self.no([(["a", "b"], [0, 1], [0, False], lower)])
        self.no([(["a", "b"], [0, 1], [0, 0], lower, [])])
        self.no([(["a", "b"], [0, 1], [0, 0])])
        self.no([(["a", "b"], [0, 1], [0, 0], [(["a"], [1, 0], [0], []), (["b"], [1, 0], [0], [])])])
        self.no([(["a", "b"], [0, 1], [0, 0], [(["a"], [1, 0], [0], lower), (["b"], [-1, 0], [0], [])])])

    def test_no_tie_that_rises_stays_below(self):
        raw = (1, ["a"], [("x", "a", "a", [1]), ("y", "a", "a", [2])])
        self.yes([(["a"], [1], [0], [])], raw)
        self.no([(["a"], [1], [0], [(["a"], [1], [0], [])])], raw)

    def test_levels_may_be_deeper_than_they_need(self):
        raw = (2, ["a"], [("x", "a", "a", [1, 0]), ("y", "a", "a", [0, 1])])
        self.yes([(["a"], [1, 0], [5], [(["a"], [3, 1], [0], [])])], raw)
        self.yes([(["a"], [2, 1], [5], [])], raw)
        self.assertEqual(depth(make(raw)), 1)

    def test_parts_in_the_order_of_their_first_rooms(self):
        raw = (1, ["c", "a", "b"], [("x", "b", "b", [1]), ("y", "a", "c", [0]), ("z", "c", "a", [1]),
                                    ("w", "a", "b", [4])])
        self.yes([(["c", "a"], [1], [0, 0], []), (["b"], [1], [0], [])], raw)
        self.no([(["b"], [1], [0], []), (["c", "a"], [1], [0, 0], [])], raw)
        self.no([(["a", "c"], [1], [0, 0], []), (["b"], [1], [0], [])], raw)

    def test_any_object(self):
        net = Net(1, ["a"], [("e", "a", "a", [1])])
        good = [(["a"], [1], [0], [])]
        for thing in any_objects():
            self.assertIs(is_levels(net, thing), thing == good)
            self.assertIs(is_levels(net, [thing]), False)
            for at in range(4):
                level = list(good[0])
                level[at] = thing
                told = [["a"], [1], [0], []][at]
                fits = (type(thing) in (list, tuple) and not any(type(one) is bool for one in thing)
                        and (list(thing) == told or at == 2 and len(thing) == 1 and is_plain_int(thing[0])))
                self.assertIs(is_levels(net, [level]), fits, (at, thing))
            self.assertIs(is_levels(net, [([thing], [1], [0], [])]), thing == "a")
            self.assertIs(is_levels(net, [(["a"], [thing], [0], [])]), type(thing) is int and thing > 0)
            self.assertIs(is_levels(net, [(["a"], [1], [thing], [])]), type(thing) is int)
            self.assertIs(is_levels(net, [(["a"], [1], [0], [thing])]), False)

    def test_what_is_passed_stays(self):
        paper = [[["a", "b"], [0, 1], [0, 0], [[["a"], [1, 0], [0], []], [["b"], [-1, 0], [0], []]]]]
        self.yes(paper)
        rank(make(TWO), paper, "a", [1, 2])
        self.assertEqual(paper, [[["a", "b"], [0, 1], [0, 0], [[["a"], [1, 0], [0], []], [["b"], [-1, 0], [0], []]]]])


class TestParts(unittest.TestCase):
    def test_two(self):
        told = parts_of(make(TWO))
        self.assertEqual(told, [(["a", "b"], ["s", "t"], [(["a"], ["u"], []), (["b"], ["v"], [])])])
        self.assertEqual(depth(net=make(TWO)), 2)

    def test_kinds(self):
        part = parts_of(net=make(TWO))[0]
        for told in (part, part[2][0], part[2][1]):
            self.assertIs(type(told), tuple)
            self.assertEqual([type(one) for one in told], [list, list, list])

    def test_a_part_that_closes(self):
        net = Net(1, ["b", "a"], [("y", "a", "a", [-2]), ("x", "a", "a", [1]), ("o", "b", "b", [0]), ("p", "a", "b", [0])])
        self.assertEqual(parts_of(net), [(["b"], [], []), (["a"], [], [])])

    def test_loose_ties_of_a_part_that_closes_within(self):
        net = Net(1, ["a", "b"], [("q", "b", "a", [7]), ("o", "a", "a", [0]), ("p", "a", "b", [-6]), ("v", "b", "b", [1])])
        self.assertEqual(parts_of(net), [(["a", "b"], ["q", "p", "v"], [(["a"], [], [])])])
        self.assertIsNone(depth(net))

    def test_balanced_sums_of_other_parts_do_not_count(self):
        net = Net(1, ["a", "b"], [("u", "a", "a", [1]), ("d", "b", "b", [-1]), ("s", "a", "b", [0])])
        self.assertEqual(parts_of(net), [(["a"], ["u"], []), (["b"], ["d"], [])])
        self.assertEqual(depth(net), 1)

    def test_orders_are_those_of_the_net(self):
        net = Net(2, ["z", "m", "a"], [("t", "a", "z", [0, 0]), ("v", "m", "m", [0, 1]), ("s", "z", "a", [0, 1]),
                                       ("b", "m", "a", [5, 5])])
        self.assertEqual(parts_of(net), [(["z", "a"], ["t", "s"], []), (["m"], ["v"], [])])

    def test_small_nets_by_search(self):
        for raw in small_nets(31, 150, most_rooms=2, most_ties=4):
            self.check_parts(raw, parts_of(make(raw)))

    def check_parts(self, raw, told):
        axes, rooms, ties = raw
        by_hand = parts_by_hand(rooms, ties)
        self.assertEqual([part[0] for part in told], [group for group, _ in by_hand])
        for (group, loose, parts), (_, inner) in zip(told, by_hand):
            found = set()
            for counts in sums_by_search((axes, group, inner), 3):
                found |= set(counts)
            self.assertEqual(loose, [tie[0] for tie in inner if tie[0] not in found], raw)
            if loose:
                self.check_parts((axes, group, [tie for tie in inner if tie[0] in found]), parts)
            else:
                self.assertEqual(parts, [])


def least_depth(axes, rooms, ties, reach):
    """The least depth of levels with numbers of small size, by trying all of them; 99 if there are none."""
    least = 0
    for group, inner in parts_by_hand(rooms, ties):
        best = 99
        evens = set()
        for direction in itertools.product(range(-reach, reach + 1), repeat=axes):
            for heights in itertools.product(range(-reach, reach + 1), repeat=len(group) - 1):
                rises = rises_by_hand(group, inner, direction, (0,) + heights)
                if min(rises) >= 0 and max(rises) > 0:
                    evens.add(tuple(at for at, rise in enumerate(rises) if rise == 0))
        for even in evens:
            best = min(best, 1 + least_depth(axes, group, [inner[at] for at in even], reach))
        least = max(least, best)
    return least


class TestDepth(unittest.TestCase):
    def test_the_least_that_levels_have(self):
        found = set()
        nets = list(small_nets(41, 120, most_rooms=2, most_ties=4, most_axes=2)) + [TWO]
        for raw in nets:
            told = depth(make(raw))
            found.add(told)
            least = least_depth(*raw, 2 if raw != TWO else 1)
            self.assertEqual(told, None if least >= 99 else least, raw)
        self.assertEqual(found, {None, 0, 1, 2})

    def test_facts(self):
        for raw in small_nets(43, 300, most_rooms=4, most_ties=7, most_axes=3):
            net = make(raw)
            told = depth(net)
            self.assertEqual(told is None, closes(net))
            if told is not None:
                self.assertLessEqual(told, raw[0])
                self.assertEqual(told, nested(parts_of(net)))
                self.assertGreaterEqual(depth_of_levels(levels_of(net)), told)
            else:
                self.assertTrue(has_core(parts_of(net)))


def nested(parts):
    return max((1 + nested(part[2]) for part in parts), default=0)


def has_core(parts):
    return any(not part[1] or has_core(part[2]) for part in parts)


def longest_ahead(rooms, ties, room):
    """The greatest number of groups ahead of a room's, by going back along all ties."""
    group = {one: tuple(other for other in rooms if other in leads(ties, one) and one in leads(ties, other))
             for one in rooms}
    return max((1 + longest_ahead(rooms, ties, tie[1]) for tie in ties
                if tie[2] in group[room] and tie[1] not in group[room]), default=0)


def rank_by_hand(rooms, ties, levels, room, place):
    told = [longest_ahead(rooms, ties, room)]
    for group, direction, heights, lower in levels:
        if room in group:
            told.append(sum(one * other for one, other in zip(direction, place)) + dict(zip(group, heights))[room])
            inner = [tie for tie in ties if tie[1] in group and tie[2] in group]
            rises = rises_by_hand(group, inner, direction, heights)
            even = [tie for tie, rise in zip(inner, rises) if rise == 0]
            told += rank_by_hand(group, even, lower, room, place)
    return told


class TestRank(unittest.TestCase):
    def test_two(self):
        net = make(TWO)
        self.assertEqual(rank(net, PAPER, "a", [7, 4]), [0, 4, 1, 7, 0])
        self.assertEqual(rank(net, PAPER, "b", [7, 5]), [0, 5, 0, -7, 0])
        self.assertEqual(rank(net=net, levels=tuple(PAPER), room="b", place=(7, 5)), [0, 5, 0, -7, 0])
        self.assertIs(type(rank(net, PAPER, "a", [7, 4])), list)

    def test_groups_without_parts(self):
        ties = [("p", "c", "b", [9]), ("q", "b", "a", [-3]), ("r", "c", "a", [0]), ("s", "d", "a", [0])]
        net = Net(1, ["a", "b", "c", "d", "e"], ties)
        self.assertEqual([rank(net, [], room, [5]) for room in net.rooms()], [[2], [1], [0], [0], [0]])

    def test_a_part_is_one_group(self):
        ties = [("p", "s", "a", [0]), ("q", "a", "b", [2]), ("r", "b", "a", [0]), ("t", "b", "e", [0]), ("u", "e", "f", [0])]
        net = Net(1, ["f", "e", "a", "b", "s"], ties)
        paper = [(["a", "b"], [1], [2, 1], [])]
        told = [rank(net, paper, room, [10]) for room in net.rooms()]
        self.assertEqual(told, [[3], [2], [1, 12, 0], [1, 11, 0], [0]])

    def test_ties_that_do_not_rise_order_the_rooms_of_a_part(self):
        net = Net(1, ["a", "b", "c"], [("p", "a", "b", [0]), ("q", "b", "c", [0]), ("r", "c", "a", [1])])
        paper = [(["a", "b", "c"], [4], [1, 1, 1], [])]
        self.assertEqual([rank(net, paper, room, [3]) for room in "abc"], [[0, 13, 0], [0, 13, 1], [0, 13, 2]])
        paper = [(["a", "b", "c"], [4], [1, 2, 2], [])]
        self.assertEqual([rank(net, paper, room, [3]) for room in "abc"], [[0, 13, 0], [0, 14, 0], [0, 14, 1]])

    def test_errors(self):
        net = make(TWO)
        wrong = [(["a", "b"], [0, 1], [0, 0], [])]
        raises(self, BadLevels, [("thing", wrong)], lambda: rank(net, wrong, "c", [1]))
        raises(self, NoRoom, [("name", "c")], lambda: rank(net, PAPER, "c", [1]))
        place = [1, 2, 3]
        raises(self, BadPlace, [("thing", place)], lambda: rank(net, PAPER, "a", place))

    def test_any_object(self):
        net = Net(1, ["a"], [("e", "a", "a", [1])])
        good = [(["a"], [1], [0], [])]
        for thing in any_objects():
            if thing != good:
                raises(self, BadLevels, [("thing", thing)], lambda: rank(net, thing, "a", [1]))
            if thing != "a":
                raises(self, NoRoom, [("name", thing)], lambda: rank(net, good, thing, [1]))
            if type(thing) in (list, tuple) and len(thing) == 1 and is_plain_int(thing[0]):
                self.assertEqual(rank(net, good, "a", thing), [0, thing[0], 0])
            else:
                raises(self, BadPlace, [("thing", thing)], lambda: rank(net, good, "a", thing))

    def test_rank_rises_along_each_tie(self):
        many = 0
        nets = list(small_nets(51, 150, most_rooms=4, most_ties=6, most_axes=2, reach=2)) + [TWO, deep_net(2)]
        for raw in nets:
            net = make(raw)
            levels = levels_of(net)
            if levels is not None:
                many += 1
                for place in itertools.product((-1, 0, 3), repeat=raw[0]):
                    for _, start, end, step in raw[2]:
                        other = [one + more for one, more in zip(place, step)]
                        self.assertLess(rank(net, levels, start, place), rank(net, levels, end, other))
        self.assertGreater(many, 40)

    def test_rank_by_hand(self):
        nets = list(small_nets(53, 200, most_rooms=4, most_ties=7, most_axes=2, reach=1)) + [TWO, deep_net(3)]
        for raw in nets:
            levels = levels_of(make(raw))
            if levels is not None:
                for room in raw[1]:
                    place = [5, -3, 2][:raw[0]]
                    told = rank(make(raw), levels, room, place)
                    self.assertEqual(told, rank_by_hand(raw[1], raw[2], levels, room, place))


if __name__ == "__main__":
    unittest.main()

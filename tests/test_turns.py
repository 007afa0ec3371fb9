"""Points [3] and [26] to [31]: Turns, what they are made of, their nets, jams, bars, and how they are seen."""

import itertools
import random
import unittest

from helpers import any_objects, is_plain_int, raises
from repeatnets.errors import BadAxes, BadKinds, BadOrder, BadPair, BadSizes, UnlikeGrids
from repeatnets.levels import is_levels, levels_of, rank
from repeatnets.nets import Net
from repeatnets.sums import closes
from repeatnets.turns import Turns, around, as_seen, level, ordered, quarter, rising, straight

EAST, WEST, NORTH, SOUTH = (0, 1, 0), (0, -1, 0), (1, 1, 0), (1, -1, 0)
LEFT = [(EAST, NORTH), (NORTH, WEST), (WEST, SOUTH), (SOUTH, EAST)]
RIGHT = [(EAST, SOUTH), (SOUTH, WEST), (WEST, NORTH), (NORTH, EAST)]
GRIDS = [(axes, kinds) for axes in (1, 2, 3) for kinds in (1, 2, 3)]


def lanes_by_hand(axes, kinds):
    return sorted((axis, sign, kind) for axis in range(axes) for sign in (1, -1) for kind in range(kinds))


def pairs_by_hand(axes, kinds):
    return sorted(itertools.product(lanes_by_hand(axes, kinds), repeat=2))


def some_turns(seed, many, most_pairs=12, most_axes=3, most_kinds=3):
    """Turns of all kinds, the same ones each time."""
    chance = random.Random(seed)
    for _ in range(many):
        axes, kinds = chance.randint(1, most_axes), chance.randint(1, most_kinds)
        every = pairs_by_hand(axes, kinds)
        yield Turns(axes, kinds, chance.sample(every, min(len(every), chance.randint(0, most_pairs))))


def name_by_hand(lane):
    return {1: "p", -1: "m"}[lane[1]] + str(lane[0]) + "." + str(lane[2])


def jam_holds(turns, sizes, thing):
    """Whether a list of the very kinds that are told is a jam, by [29]: lane by lane."""
    if type(thing) is not list or not thing:
        return False
    for at, row in enumerate(thing):
        if type(row) is not tuple or len(row) != 2 or type(row[0]) is not tuple or type(row[1]) is not tuple:
            return False
        place, lane = row
        other, behind = thing[(at + 1) % len(thing)]
        if not all(map(is_plain_int, place + lane)) or len(place) != turns.axes:
            return False
        end = tuple(number + (lane[1] if axis == lane[0] else 0) for axis, number in enumerate(place))
        if end != other or (lane, behind) not in turns.pairs():
            return False
        if not all(0 <= number < size for hall in (place, end) for number, size in zip(hall, sizes)):
            return False
    return True


def jams_by_search(turns, most):
    """Whether some jam of at most so many lanes is there, on a grid of any size: all rows of lanes are gone."""
    rows = [((lane,), lane, tuple(0 for _ in range(turns.axes))) for lane in lanes_by_hand(turns.axes, turns.kinds)]
    for _ in range(most):
        ahead = {}
        for first, lane, place in rows:
            place = tuple(number + (lane[1] if axis == lane[0] else 0) for axis, number in enumerate(place))
            for one, other in turns.pairs():
                if one == lane:
                    if other == first[0] and not any(place):
                        return True
                    ahead[(first, other, place)] = True
        rows = list(ahead)
    return False


class TestMade(unittest.TestCase):
    def test_tells_what_it_was_made_of(self):
        turns = Turns(2, 1, RIGHT)
        self.assertEqual([turns.axes, turns.kinds, len(turns)], [2, 1, 4])
        self.assertTrue(is_plain_int(turns.axes) and is_plain_int(turns.kinds))
        self.assertEqual(turns.pairs(), [((0, -1, 0), (1, 1, 0)), ((0, 1, 0), (1, -1, 0)), ((1, -1, 0), (0, -1, 0)),
                                         ((1, 1, 0), (0, 1, 0))])
        self.assertIs(type(turns.pairs()), list)
        self.assertEqual(Turns(axes=2, kinds=1, pairs=RIGHT), turns)
        self.assertEqual([len(Turns(3, 3, [])), Turns(1, 1, ()).pairs()], [0, []])

    def test_each_pair_once_ascending(self):
        chance = random.Random(61)
        for axes, kinds in GRIDS:
            every = pairs_by_hand(axes, kinds)
            told = [chance.choice(every) for _ in range(40)]
            turns = Turns(axes, kinds, told)
            self.assertEqual(turns.pairs(), sorted(set(told)))
            self.assertEqual(len(turns), len(set(told)))
            self.assertEqual(Turns(axes, kinds, every).pairs(), every)

    def test_told_as_lists(self):
        told = ([[0, 1, 0], (1, 1, 0)], ((0, 1, 0), [1, 1, 0]), [(0, 1, 0), (1, 1, 0)])
        for turns in (Turns(2, 1, told), Turns(2, 1, list(told) + [(EAST, NORTH)])):
            self.assertEqual(turns, Turns(2, 1, [(EAST, NORTH)]))
            self.assertEqual(turns.pairs(), [(EAST, NORTH)])
            pair = turns.pairs()[0]
            self.assertEqual([type(pair), type(pair[0]), type(pair[1])], [tuple, tuple, tuple])

    def test_copied_and_new_each_time(self):
        pair = [[0, 1, 0], [1, 1, 0]]
        told = [pair]
        turns = Turns(2, 1, told)
        pair[0][0] = 1
        told.append((EAST, EAST))
        turns.pairs().clear()
        self.assertEqual(turns.pairs(), [(EAST, NORTH)])
        self.assertEqual(told, [[[1, 1, 0], [1, 1, 0]], (EAST, EAST)])

    def test_errors(self):
        for thing in any_objects() + [0, 4, -1, "1", 1.0]:
            if not is_plain_int(thing) or not 1 <= thing <= 3:
                raises(self, BadAxes, [("axes", thing)], lambda: Turns(thing, 1, []))
                raises(self, BadAxes, [("axes", thing)], lambda: Turns(thing, None, None))
                raises(self, BadKinds, [("kinds", thing)], lambda: Turns(1, thing, []))
                raises(self, BadKinds, [("kinds", thing)], lambda: Turns(3, thing, None))
        for thing in any_objects() + ["pair", {EAST: EAST}]:
            if not isinstance(thing, (list, tuple)):
                raises(self, BadPair, [("index", 0)], lambda: Turns(2, 1, thing))

    def test_bad_pair(self):
        pair = (EAST, NORTH)
        for thing in any_objects() + [
                EAST, (EAST,), (EAST, NORTH, NORTH), (EAST, None), (EAST, "010"), (EAST, (0, 1)), (EAST, (0, 1, 0, 0)),
                ((2, 1, 0), EAST), (EAST, (-1, 1, 0)), (EAST, (0, 0, 0)), (EAST, (0, 2, 0)), (EAST, (0, 1, 1)),
                ((0, 1, -1), EAST), ((False, 1, 0), EAST), ((0, True, 0), EAST), (EAST, (0, 1, False)), (EAST, {0: 1}),
                {EAST: 1, NORTH: 1}, (EAST, (0, "1", 0)), (EAST, (0, 1.0, 0))]:
            if thing != [EAST, NORTH]:
                raises(self, BadPair, [("index", 0)], lambda: Turns(2, 1, [thing, pair]))
                raises(self, BadPair, [("index", 2)], lambda: Turns(2, 1, [pair, pair, thing, None]))
        self.assertEqual(len(Turns(2, 2, [(EAST, (0, 1, 1))])), 1)
        raises(self, BadPair, [("index", 1)], lambda: Turns(1, 1, (((0, 1, 0), (0, 1, 0)), pair)))


class TestOperators(unittest.TestCase):
    def test_in(self):
        turns = Turns(2, 1, LEFT)
        for pair in LEFT:
            for thing in (pair, list(pair), [list(lane) for lane in pair]):
                self.assertIs(thing in turns, True)
        for thing in any_objects() + RIGHT + [
                EAST, (EAST,), (EAST, NORTH, 0), ((0, True, 0), NORTH), ((False, 1, 0), NORTH), (EAST, (1, 1, False)),
                ((0, 1, 1), NORTH), ((2, 1, 0), NORTH), "p0.0.p1.0", {EAST: NORTH, NORTH: EAST}, turns]:
            if thing != [EAST, NORTH]:
                self.assertIs(thing in turns, False, thing)

    def test_of_two(self):
        chance = random.Random(62)
        for axes, kinds in GRIDS:
            every = pairs_by_hand(axes, kinds)
            for _ in range(15):
                one, other = ([pair for pair in every if chance.random() < part] for part in (0.3, 0.6))
                first, second = Turns(axes, kinds, one), Turns(axes, kinds, other)
                for told, wanted in ((first | second, set(one) | set(other)), (first & second, set(one) & set(other)),
                                     (first - second, set(one) - set(other)), (second - first, set(other) - set(one)),
                                     (~first, set(every) - set(one))):
                    self.assertIs(type(told), Turns)
                    self.assertEqual((told.axes, told.kinds, told.pairs()), (axes, kinds, sorted(wanted)))
                self.assertEqual((first.pairs(), second.pairs()), (one, other))
                self.assertEqual(~~first, first)

    def test_unlike_grids(self):
        one = Turns(2, 1, [])
        for other in (Turns(1, 1, []), Turns(2, 2, []), Turns(3, 3, [])):
            for call in (lambda a, b: a | b, lambda a, b: a & b, lambda a, b: a - b, as_seen):
                raises(self, UnlikeGrids, [], lambda: call(one, other))
                raises(self, UnlikeGrids, [], lambda: call(other, one))

    def test_with_another_kind_of_object(self):
        for other in (None, 5, LEFT, Turns(2, 1, LEFT).net()):
            for call in (lambda a, b: a | b, lambda a, b: a & b, lambda a, b: a - b):
                with self.assertRaises(TypeError):
                    call(Turns(2, 1, LEFT), other)

    def test_equal(self):
        turns = Turns(2, 1, LEFT)
        self.assertTrue(turns == Turns(2, 1, LEFT[::-1] + LEFT))
        self.assertFalse(turns != Turns(2, 1, LEFT[::-1] + LEFT))
        for other in [Turns(2, 1, LEFT[:3]), Turns(2, 1, RIGHT), Turns(2, 2, LEFT), Turns(3, 1, LEFT), turns.net(),
                      turns.pairs()] + any_objects():
            self.assertFalse(turns == other)
            self.assertFalse(other == turns)
            self.assertTrue(turns != other)
        self.assertFalse(Turns(1, 1, []) == Turns(1, 2, []))


class TestMakers(unittest.TestCase):
    def check(self, told, axes, kinds, test):
        self.assertIs(type(told), Turns)
        self.assertEqual((told.axes, told.kinds), (axes, kinds))
        self.assertEqual(told.pairs(), [pair for pair in pairs_by_hand(axes, kinds) if test(*pair)])

    def test_by_all_pairs(self):
        for axes, kinds in GRIDS:
            self.check(straight(axes, kinds), axes, kinds, lambda one, other: one == other)
            self.check(quarter(axes, kinds), axes, kinds, lambda one, other: one[0] != other[0])
            self.check(around(axes, kinds), axes, kinds, lambda one, other: one[0] == other[0] and one[1] != other[1])
            self.check(rising(axes, kinds), axes, kinds, lambda one, other: one[2] < other[2])
            self.check(level(axes, kinds), axes, kinds, lambda one, other: one[2] == other[2])
            for order in itertools.permutations(range(axes)):
                told = ordered(axes, kinds, list(order))
                self.check(told, axes, kinds, lambda one, other: order.index(one[0]) < order.index(other[0]))
                self.assertEqual(ordered(axes, kinds, order), told)

    def test_counts(self):
        self.assertEqual([len(make(2, 1)) for make in (straight, quarter, around, rising, level)], [4, 8, 4, 0, 16])
        self.assertEqual([len(make(3, 3)) for make in (straight, quarter, around, rising, level)],
                         [18, 216, 54, 108, 108])
        self.assertEqual(ordered(2, 1, [1, 0]).pairs(), [(one, other) for one in (SOUTH, NORTH) for other in (WEST, EAST)])
        self.assertEqual(len(ordered(1, 3, [0])), 0)

    def test_by_name(self):
        for make in (straight, quarter, around, rising, level):
            self.assertEqual(make(axes=2, kinds=3), make(2, 3))
        self.assertEqual(ordered(axes=2, kinds=3, order=[1, 0]), ordered(2, 3, (1, 0)))

    def test_errors(self):
        calls = [straight, quarter, around, rising, level, lambda axes, kinds: ordered(axes, kinds, None)]
        for thing in any_objects() + [0, 4, "1", 1.0]:
            if not is_plain_int(thing) or not 1 <= thing <= 3:
                for call in calls:
                    raises(self, BadAxes, [("axes", thing)], lambda: call(thing, None))
                    raises(self, BadKinds, [("kinds", thing)], lambda: call(3, thing))

    def test_bad_order(self):
        for axes in (1, 2, 3):
            for thing in any_objects() + [[0] * axes, [0, 1, 2, 3], [1, 2, 3], "012", [0, 1, 1], {0: 0, 1: 1, 2: 2},
                                          [0, 2], [0, True, 2], [0, "1"], [False]]:
                if (not isinstance(thing, (list, tuple)) or not all(map(is_plain_int, thing))
                        or sorted(thing) != list(range(axes))):
                    raises(self, BadOrder, [("order", thing)], lambda: ordered(axes, 2, thing))


class TestNet(unittest.TestCase):
    def test_rows(self):
        net = Turns(2, 1, [(EAST, NORTH), (NORTH, NORTH), (SOUTH, WEST)]).net()
        self.assertIs(type(net), Net)
        self.assertEqual(net.axes, 2)
        self.assertEqual(net.rooms(), ["m0.0", "p0.0", "m1.0", "p1.0"])
        self.assertEqual(net.ties(), [("p0.0.p1.0", "p0.0", "p1.0", (1, 0)), ("m1.0.m0.0", "m1.0", "m0.0", (0, -1)),
                                      ("p1.0.p1.0", "p1.0", "p1.0", (0, 1))])

    def test_all(self):
        for turns in list(some_turns(63, 60)) + [~Turns(axes, kinds, []) for axes, kinds in GRIDS]:
            net = turns.net()
            self.assertEqual(net.axes, turns.axes)
            self.assertEqual(net.rooms(), [name_by_hand(lane) for lane in lanes_by_hand(turns.axes, turns.kinds)])
            rows = []
            for one, other in sorted(turns.pairs()):
                step = [0] * turns.axes
                step[one[0]] = one[1]
                names = name_by_hand(one), name_by_hand(other)
                rows.append((".".join(names),) + names + (tuple(step),))
            self.assertEqual(net.ties(), rows)


class TestJams(unittest.TestCase):
    def check(self, turns):
        told = turns.jam()
        self.assertEqual(told is not None, closes(turns.net()), turns.pairs())
        if told is not None:
            self.assertEqual([type(told), len(told), type(told[0]), type(told[1])], [tuple, 2, tuple, list])
            self.assertEqual(len(told[0]), turns.axes)
            self.assertTrue(all(is_plain_int(size) and size >= 1 for size in told[0]))
            self.assertTrue(jam_holds(turns, told[0], told[1]), (turns.pairs(), told))
            self.assertIs(turns.is_jam(told[0], told[1]), True)
            self.assertIs(turns.is_jam(sizes=list(told[0]), thing=told[1]), True)
        return told is not None

    def test_plain_ones(self):
        self.assertEqual([Turns(2, 1, LEFT[:3]).jam(), Turns(3, 3, []).jam(), straight(3, 3).jam()], [None] * 3)
        sizes, jam = Turns(2, 1, LEFT).jam()
        self.assertEqual([sizes, len(jam)], [(2, 2), 4])
        sizes, jam = around(1, 1).jam()
        self.assertEqual([sizes, len(jam)], [(2,), 2])

    def test_all(self):
        found = [self.check(turns) for turns in some_turns(64, 500, most_pairs=20)]
        self.assertTrue(100 < sum(found) < 400, sum(found))

    def test_agrees_with_a_search(self):
        for turns in some_turns(65, 120, most_pairs=8, most_axes=2, most_kinds=2):
            if jams_by_search(turns, 8):
                self.assertTrue(self.check(turns))
            elif turns.jam() is not None:
                self.assertGreater(len(turns.jam()[1]), 8)

    def test_jams_of_many_lanes(self):
        steep = Turns(2, 2, [((0, 1, 0), (1, 1, 0)), ((1, 1, 0), (0, 1, 0)), ((1, 1, 0), (0, -1, 1)), ((0, -1, 1), (0, -1, 1)),
                             ((0, -1, 1), (1, -1, 1)), ((1, -1, 1), (1, -1, 1)), ((1, -1, 1), (0, 1, 0))])
        self.assertTrue(self.check(steep))

    def test_the_same_each_time_and_new(self):
        turns = ~Turns(2, 2, [])
        told = turns.jam()
        turns.jam()[1].clear()
        self.assertEqual(turns.jam(), told)
        self.assertEqual((~Turns(2, 2, [])).jam(), told)

    def test_begun_elsewhere_and_bent(self):
        turns = Turns(2, 1, LEFT + [(EAST, EAST)])
        jam = [((0, 0), EAST), ((1, 0), NORTH), ((1, 1), WEST), ((0, 1), SOUTH)]
        wide = [((0, 0), EAST), ((1, 0), EAST), ((2, 0), NORTH), ((2, 1), WEST), ((1, 1), SOUTH), ((1, 0), EAST)]
        for at in range(4):
            row = jam[at:] + jam[:at]
            self.assertIs(turns.is_jam([2, 2], row), True)
            self.assertIs(turns.is_jam((2, 2), tuple(row)), True)
            self.assertIs(turns.is_jam([2, 2], [[list(place), list(lane)] for place, lane in row]), True)
            self.assertIs(turns.is_jam([2, 2], row + row), True)
            self.assertIs(turns.is_jam([5, 9], [((x + 3, y + 7), lane) for (x, y), lane in row]), True)
            for gone in range(4):
                self.assertIs(turns.is_jam([2, 2], row[:gone] + row[gone + 1:]), False)
                self.assertIs(turns.is_jam([2, 2], row[:gone] + [row[gone]] * 2 + row[gone + 1:]), False)
            self.assertIs(turns.is_jam([2, 2], row[::-1]), False)
            self.assertIs(Turns(2, 1, LEFT[:3]).is_jam([2, 2], row), False)
            for place in ((-1, 0), (0, -1), (4, 0), (0, 8)):
                self.assertIs(turns.is_jam([5, 9], [((x + place[0], y + place[1]), lane) for (x, y), lane in row]), False)
        for sizes in ([1, 2], [2, 1], [1, 1]):
            self.assertIs(turns.is_jam(sizes, jam), False)
        self.assertIs(turns.is_jam([3, 2], wide), False)
        self.assertIs(turns.is_jam([3, 2], jam[:1] + wide[1:2]), False)

    def test_all_short_rows(self):
        turns = Turns(1, 2, [((0, 1, 0), (0, -1, 1)), ((0, -1, 1), (0, 1, 0)), ((0, 1, 0), (0, 1, 0)),
                             ((0, -1, 1), (0, -1, 1))])
        rows = [((at,), lane) for at in range(-1, 4) for lane in ((0, 1, 0), (0, -1, 1), (0, -1, 0))]
        found = 0
        for length in (1, 2, 3, 4):
            for row in itertools.product(rows, repeat=length):
                told = jam_holds(turns, (3,), list(row))
                self.assertIs(turns.is_jam([3], list(row)), told)
                found += told
        self.assertGreater(found, 10)

    def test_is_jam_of_any_objects(self):
        turns = Turns(2, 1, LEFT)
        jam = [((0, 0), EAST), ((1, 0), NORTH), ((1, 1), WEST), ((0, 1), SOUTH)]
        for thing in any_objects() + [
                ((2, 2), jam), [(place, lane, 0) for place, lane in jam], [(list(place), None) for place, _ in jam],
                [((0, False), EAST)] + jam[1:], [((0, 0), (0, True, 0))] + jam[1:], [((0,), EAST)] + jam[1:],
                [((0, 0, 0), EAST)] + jam[1:], [("00", EAST)] + jam[1:], [((0, 0), (0, 1, 1))] + jam[1:],
                [((0, 0), (2, 1, 0))] + jam[1:], [((0, 0), "010")] + jam[1:], [None] + jam[1:], jam + [None],
                dict(jam), [(lane, place) for place, lane in jam], [turns], [(place, [lane]) for place, lane in jam]]:
            self.assertIs(turns.is_jam([2, 2], thing), False, thing)

    def test_bad_sizes(self):
        turns = Turns(2, 1, LEFT)
        for thing in any_objects() + [[2], [2, 2, 2], [0, 2], [2, -1], [2, True], "22", {2: 2}, [2, "2"], [2, 2.0]]:
            if (not isinstance(thing, (list, tuple)) or len(thing) != 2
                    or not all(is_plain_int(size) and size >= 1 for size in thing)):
                raises(self, BadSizes, [("sizes", thing)], lambda: turns.is_jam(thing, []))
                raises(self, BadSizes, [("sizes", thing)], lambda: turns.is_jam(thing, None))

    def test_ranks_tell_a_cart_that_can_move(self):
        chance = random.Random(66)
        for turns in some_turns(67, 150, most_pairs=14, most_axes=2, most_kinds=2):
            net = turns.net()
            paper = levels_of(net)
            if paper is None:
                continue
            self.assertIs(is_levels(net, paper), True)
            for one, other in turns.pairs():
                place = [chance.randint(-5, 5) for _ in range(turns.axes)]
                behind = [number + (one[1] if axis == one[0] else 0) for axis, number in enumerate(place)]
                self.assertLess(rank(net, paper, name_by_hand(one), place), rank(net, paper, name_by_hand(other), behind))


def bars_by_trial(turns, pairs):
    """All sets of the pairs tried one by one, shorter ones first, those without a lesser one that leave no jam."""
    found = []
    for length in range(len(pairs) + 1):
        for bar in itertools.combinations(sorted(pairs), length):
            if not any(set(less) <= set(bar) for less in found):
                if (turns - Turns(turns.axes, turns.kinds, bar)).jam() is None:
                    found.append(bar)
    return found


class TestBars(unittest.TestCase):
    def test_all_sets(self):
        chance = random.Random(68)
        found = {}
        for turns in some_turns(69, 200, most_pairs=16):
            pairs = turns.pairs()
            chance.shuffle(pairs)
            pairs = pairs[:chance.randint(0, 8)]
            told = turns.bars(pairs)
            self.assertEqual(told, bars_by_trial(turns, pairs))
            self.assertIs(type(told), list)
            self.assertTrue(all(type(bar) is tuple and all(type(pair) is tuple for pair in bar) for bar in told))
            key = "many" if len(told) > 1 else "none" if not told else len(told[0])
            found[key] = found.get(key, 0) + 1
        self.assertTrue(all(found.get(key, 0) > 5 for key in ("many", "none", 0, 1)), found)

    def test_plain_ones(self):
        turns = Turns(2, 1, LEFT)
        self.assertEqual(turns.bars(LEFT), [(pair,) for pair in sorted(LEFT)])
        self.assertEqual(turns.bars(pairs=LEFT[1:2]), [(LEFT[1],)])
        self.assertEqual(turns.bars([]), [])
        self.assertEqual(Turns(2, 1, LEFT[:3]).bars(LEFT[:2]), [()])
        self.assertEqual(turns.bars([[list(lane) for lane in LEFT[0]]]), [(LEFT[0],)])
        self.assertEqual((turns | Turns(2, 1, RIGHT)).bars(LEFT), [])

    def test_pairs_ascend_as_pairs_and_not_as_names(self):
        turns = Turns(2, 1, [(WEST, EAST), (EAST, WEST), (SOUTH, NORTH), (NORTH, SOUTH)])
        self.assertEqual(turns.bars([(NORTH, SOUTH), (EAST, WEST), (SOUTH, NORTH), (WEST, EAST)]),
                         [((WEST, EAST), (SOUTH, NORTH)), ((WEST, EAST), (NORTH, SOUTH)),
                          ((EAST, WEST), (SOUTH, NORTH)), ((EAST, WEST), (NORTH, SOUTH))])

    def test_errors(self):
        turns = Turns(2, 1, LEFT)
        for thing in any_objects() + ["x", {EAST: EAST}]:
            if not isinstance(thing, (list, tuple)):
                raises(self, BadPair, [("index", 0)], lambda: turns.bars(thing))
            if thing != [EAST, NORTH]:
                raises(self, BadPair, [("index", 0)], lambda: turns.bars([thing]))
                raises(self, BadPair, [("index", 2)], lambda: turns.bars((LEFT[0], LEFT[1], thing, LEFT[0])))
        raises(self, BadPair, [("index", 1)], lambda: turns.bars([LEFT[0], RIGHT[0]]))
        raises(self, BadPair, [("index", 1)], lambda: turns.bars([LEFT[0], LEFT[0]]))
        raises(self, BadPair, [("index", 2)], lambda: turns.bars([LEFT[0], LEFT[1], [list(lane) for lane in LEFT[0]], None]))
        raises(self, BadPair, [("index", 0)], lambda: Turns(2, 1, []).bars(LEFT))


class TestSeen(unittest.TestCase):
    def views(self, axes, kinds):
        return itertools.product(itertools.permutations(range(axes)), itertools.product((1, -1), repeat=axes),
                                 itertools.permutations(range(kinds)))

    def seen_by_hand(self, turns, axes, signs, kinds):
        rows = [tuple((axes[axis], sign * signs[axis], kinds[kind]) for axis, sign, kind in pair) for pair in turns.pairs()]
        return Turns(turns.axes, turns.kinds, rows)

    def test_lanes_are_mapped(self):
        turns = Turns(2, 2, [((0, 1, 0), (1, 1, 1))])
        for view, told in (
                (([0, 1], [1, 1], [0, 1]), ((0, 1, 0), (1, 1, 1))), (([1, 0], [1, 1], [0, 1]), ((1, 1, 0), (0, 1, 1))),
                (([0, 1], [-1, 1], [0, 1]), ((0, -1, 0), (1, 1, 1))), (([1, 0], [-1, 1], [0, 1]), ((1, -1, 0), (0, 1, 1))),
                (([0, 1], [1, 1], [1, 0]), ((0, 1, 1), (1, 1, 0)))):
            self.assertEqual(turns.seen(*view).pairs(), [told])
            self.assertEqual(turns.seen(*[tuple(row) for row in view]).pairs(), [told])
        self.assertEqual(turns.seen(axes=[1, 0], signs=[1, -1], kinds=[1, 0]).pairs(), [((1, 1, 1), (0, -1, 0))])

    def test_all_views(self):
        for turns in some_turns(70, 60, most_pairs=6):
            jams = turns.jam() is not None
            for at, view in enumerate(self.views(turns.axes, turns.kinds)):
                if at % 7 == 0:
                    told = turns.seen(*view)
                    self.assertEqual(told, self.seen_by_hand(turns, *view))
                    self.assertIs(as_seen(turns, told), True)
                    self.assertIs(as_seen(one=told, other=turns), True)
                    self.assertEqual(told.jam() is not None, jams)

    def test_as_seen_by_all_views(self):
        chance = random.Random(71)
        found = []
        for axes, kinds in ((1, 2), (2, 1), (2, 2), (3, 1)):
            every = pairs_by_hand(axes, kinds)
            for _ in range(40):
                many = chance.randint(1, 3)
                one, other = (Turns(axes, kinds, chance.sample(every, many)) for _ in range(2))
                wanted = any(self.seen_by_hand(one, *view) == other for view in self.views(axes, kinds))
                self.assertIs(as_seen(one, other), wanted)
                found.append(wanted)
        self.assertTrue(10 < sum(found) < len(found) - 10)

    def test_as_seen_edges(self):
        self.assertIs(as_seen(Turns(3, 3, []), Turns(3, 3, [])), True)
        self.assertIs(as_seen(~Turns(3, 3, []), ~Turns(3, 3, [])), True)
        self.assertIs(as_seen(quarter(3, 3), level(3, 3)), False)
        self.assertIs(as_seen(Turns(2, 1, LEFT), Turns(2, 1, RIGHT)), True)
        self.assertIs(as_seen(Turns(2, 1, LEFT), Turns(2, 1, LEFT[:3])), False)
        self.assertIs(as_seen(Turns(2, 1, LEFT[:3]), Turns(2, 1, LEFT)), False)
        self.assertIs(as_seen(rising(2, 3), ~(rising(2, 3) | level(2, 3))), True)

    def test_bad_orders(self):
        turns = Turns(2, 3, [])
        good = [[1, 0], [1, -1], [2, 0, 1]]
        more = [[0], [0, 0], [0, 2], [0, True], "01", [1, 1, 1], [1, 0, -1], [1, 2], [-1, True], [0, 1, 2, 3], [0, 1, 1],
                [0, True, 2], {0: 1, 1: 0}, {0: 0, 1: 1, 2: 2}, [1, "1"], [1, 1.0]]
        for thing in any_objects() + more:
            plain = isinstance(thing, (list, tuple)) and all(map(is_plain_int, thing))
            for at, right in enumerate((plain and sorted(thing) == [0, 1],
                                        plain and len(thing) == 2 and set(thing) <= {1, -1},
                                        plain and sorted(thing) == [0, 1, 2])):
                if not right:
                    raises(self, BadOrder, [("order", thing)], lambda: turns.seen(*(good[:at] + [thing] + good[at + 1:])))
                    raises(self, BadOrder, [("order", thing)], lambda: turns.seen(*(good[:at] + [thing] * (3 - at))))


class TestFacts(unittest.TestCase):
    def test_two_of_the_eight_quarter_pairs(self):
        full = straight(2, 1) | quarter(2, 1)
        self.assertEqual(sorted(quarter(2, 1).pairs()), sorted(LEFT + RIGHT))
        lacks = [length for length in range(9) for gone in itertools.combinations(LEFT + RIGHT, length)
                 if (full - Turns(2, 1, gone)).jam() is None]
        self.assertEqual(min(lacks), 2)
        self.assertEqual(lacks.count(2), 12)
        bars = full.bars(LEFT + RIGHT)
        self.assertEqual(bars, bars_by_trial(full, LEFT + RIGHT))
        self.assertTrue(all(len(bar) == 2 for bar in bars[:12]) and all(len(bar) > 2 for bar in bars[12:]))

    def test_sixteen_ways_twelve_and_three(self):
        full = straight(2, 1) | quarter(2, 1)
        free = [turns for turns in (full - Turns(2, 1, both) for both in itertools.product(LEFT, RIGHT))
                if turns.jam() is None]
        self.assertEqual(len(free), 12)
        unlike = []
        for turns in free:
            if not any(as_seen(turns, other) for other in unlike):
                unlike.append(turns)
        self.assertEqual(len(unlike), 3)

    def test_no_jam_goes_by_more_pairs(self):
        chance = random.Random(72)
        for turns in some_turns(73, 80, most_pairs=14):
            if turns.jam() is not None:
                every = pairs_by_hand(turns.axes, turns.kinds)
                more = turns | Turns(turns.axes, turns.kinds, chance.sample(every, min(len(every), 10)))
                self.assertIsNotNone(more.jam())

    def test_kinds_that_rise_and_axes_in_order(self):
        for axes, kinds in GRIDS:
            for order in itertools.permutations(range(axes)):
                turns = rising(axes, kinds) | (level(axes, kinds) & (ordered(axes, kinds, order) | straight(axes, kinds)))
                self.assertIsNone(turns.jam())
                self.assertFalse(closes(turns.net()))
        self.assertIsNotNone((rising(1, 2) | level(1, 2)).jam())


if __name__ == "__main__":
    unittest.main()

"""Point [5] for changes, boxes, cuts and turns: at the limits each question is answered in moderate time."""

import itertools
import math
import random
import time
import unittest

from repeatnets.boxes import box_way, boxed, is_box_way, least_boxes, longest_way
from repeatnets.changes import alike, bent, flat, shifted, turned, wider
from repeatnets.cuts import cuts, vital
from repeatnets.nets import Net
from repeatnets.sums import closes
from repeatnets.turns import Turns, as_seen

FAR = 10 ** 15 - 1
SECONDS = 5


def ring_net(seed, axes, rooms, ties, reach):
    """A net whose rooms hang together by a ring, with any steps up to a reach."""
    chance = random.Random(seed)
    names = ["r%d" % at for at in range(rooms)]
    ends = [(at, (at + 1) % rooms) for at in range(rooms)]
    ends += [(chance.randrange(rooms), chance.randrange(rooms)) for _ in range(ties - rooms)]
    return Net(axes, names, [("t%d" % at, names[start], names[end], [chance.randint(-reach, reach) for _ in range(axes)])
                             for at, (start, end) in enumerate(ends)])


class TestLimits(unittest.TestCase):
    def timed(self, call, *told):
        begun = time.process_time()
        answer = call(*told)
        self.assertLess(time.process_time() - begun, SECONDS, getattr(call, "__name__", call))
        return answer

    def check_box(self, net, sizes):
        way = self.timed(box_way, net, sizes)
        self.assertEqual(self.timed(longest_way, net, sizes) is None, way is not None)
        self.assertTrue(way is None or is_box_way(net, sizes, way))
        return way

    def test_boxes_of_two_hundred_halls(self):
        found = []
        for seed, (rooms, sizes) in enumerate(itertools.product((1, 2, 5, 10, 40), ([200], [20, 10], [5, 8, 5], [2, 5, 4, 5]))):
            sizes = sizes[:-1] + [sizes[-1] // rooms or 1]
            while math.prod(sizes) * rooms > 200:
                sizes[sizes.index(max(sizes))] -= 1
            for reach in (1, 3, 40):
                net = ring_net(seed, len(sizes), rooms, 60, reach)
                found.append(self.check_box(net, sizes))
                self.check_box(net.without(["t%d" % at for at in range(0, 60, 3)]), sizes)
        self.assertIn(None, found)
        self.assertGreater(len([way for way in found if way is not None]), 10)

    def test_the_longest_ways_of_a_box(self):
        snake = Net(1, ["a"], [("t%d" % at, "a", "a", [at + 1]) for at in range(60)])
        self.assertEqual(self.timed(longest_way, snake, [200]), 199)
        self.assertIsNone(self.timed(box_way, snake, [200]))
        back = snake.more([("b", "a", "a", [-199])])
        self.assertEqual(self.timed(box_way, back.only(["t0", "b"]), [200])[1].count("t0"), 199)
        self.assertEqual(len(self.check_box(back, [200])[1]), 5)
        self.assertIsNone(self.timed(longest_way, Net(1, ["a"], [("t", "a", "a", [99]), ("s", "a", "a", [-98])]), [200]))

    def check_least(self, net, most):
        """Whether just those boxes up to most have a way back in which some of the least ones lies."""
        told = self.timed(least_boxes, net)
        for sizes in itertools.product(range(1, most + 1), repeat=net.axes):
            wide = any(all(one <= size for one, size in zip(least, sizes)) for least in told)
            self.assertEqual(longest_way(net, sizes) is None, wide, (net.ties(), sizes))
        for one, other in itertools.permutations(told, 2):
            self.assertFalse(all(less <= more for less, more in zip(one, other)))
        self.assertEqual(told, sorted(told))
        return told

    def test_least_boxes_of_three_axes(self):
        greatest = []
        for seed in range(60):
            net = ring_net(seed, 3, 1 + seed % 3, 6, 1 + seed % 2)
            greatest += [max(sizes) for sizes in self.check_least(net, 5)]
        self.assertIn(5, greatest)
        ties = [("e", "a", "a", [4, 0, 0]), ("w", "a", "b", [-1, 0, 0]), ("n", "b", "b", [0, 4, -1]),
                ("s", "b", "b", [0, -4, 0]), ("u", "b", "c", [-3, 0, 0]), ("d", "c", "a", [0, 0, 4])]
        self.assertEqual(self.check_least(Net(3, ["a", "b", "c"], ties), 5), [(5, 5, 5)])

    def test_least_boxes_of_one_axis_and_two_up_to_twenty(self):
        net = Net(1, ["a", "b", "c"], [("e", "a", "b", [11]), ("f", "b", "c", [0]), ("w", "c", "a", [0]),
                                       ("v", "a", "c", [-9]), ("u", "b", "b", [FAR]), ("x", "c", "b", [-FAR])])
        self.assertEqual(self.check_least(net, 20), [(20,)])
        many = []
        for seed in range(100):
            net = ring_net(seed, 2, 1 + seed % 3, 6, 5)
            told = self.timed(least_boxes, net)
            if told and max(max(sizes) for sizes in told) <= 20 and len(told) > 3 and len(many) < 6:
                many.append(len(self.check_least(net, 20)))
        self.assertEqual(len(many), 6)
        wide = Net(2, ["a"], [("e", "a", "a", [11, 0]), ("w", "a", "a", [-9, 0]), ("n", "a", "a", [0, 7]),
                              ("s", "a", "a", [0, -13]), ("u", "a", "a", [9, 9]), ("d", "a", "a", [-9, -9])])
        self.assertEqual(self.check_least(wide, 20), [(1, 20), (10, 10), (20, 1)])

    def test_least_boxes_of_what_boxed_tells(self):
        found = []
        for seed in range(40):
            for axes in (1, 2):
                net = ring_net(seed, axes, 2, 5, 1 + seed % 4)
                for axis in range(axes):
                    told = self.timed(boxed, net, axis, 4)
                    self.assertLessEqual(len(told.rooms()), 8)
                    found += self.check_least(told, 20)
        self.assertIn((), found)
        self.assertGreater(max(max(sizes, default=0) for sizes in found), 5)

    def test_least_boxes_of_nets_that_do_not_close(self):
        for seed in range(20):
            net = ring_net(seed, 3, 3, 6, FAR)
            climbing = Net(3, net.rooms(), [tie[:3] + ([abs(tie[3][0]) + 1] + list(tie[3][1:]),) for tie in net.ties()])
            self.assertEqual(self.timed(least_boxes, climbing), [])

    def test_cuts_and_vital_ties(self):
        chance = random.Random(81)
        for axes in range(5):
            for rooms, ties in ((18, 30), (5, 30), (1, 30), (1, 10), (4, 10)):
                net = ring_net(axes, axes, rooms, ties, FAR // 2)
                names = chance.sample([tie[0] for tie in net.ties()], 10)
                for cut in self.timed(cuts, net, names):
                    self.assertFalse(closes(net.without(list(cut))))
                for name in self.timed(vital, net):
                    self.assertFalse(closes(net.without([name])))
        rings = [("%s%d" % (sign, at), "r%d" % at, "r%d" % at, [1 if sign == "e" else -1]) for at in range(5) for sign in "ew"]
        net = Net(1, ["r%d" % at for at in range(5)], rings)
        told = self.timed(cuts, net, [tie[0] for tie in rings])
        self.assertEqual(told, sorted(tuple(sorted(cut)) for cut in itertools.product(
            *[("e%d" % at, "w%d" % at) for at in range(5)])))

    def test_turns(self):
        chance = random.Random(82)
        lanes = list(itertools.product(range(3), (1, -1), range(3)))
        every = list(itertools.product(lanes, lanes))
        jams = 0
        for _ in range(100):
            pairs = chance.sample(every, 30)
            turns = Turns(3, 3, pairs)
            told = self.timed(turns.jam)
            if told is not None:
                jams += 1
                self.assertIs(turns.is_jam(told[0], told[1]), True)
            for bar in self.timed(turns.bars, pairs[:10]):
                self.assertIsNone((turns - Turns(3, 3, bar)).jam())
        self.assertGreater(jams, 20)
        everywhere = ~Turns(3, 3, [])
        self.assertEqual(len(everywhere), 324)
        self.assertIs(self.timed(as_seen, everywhere, everywhere), True)
        one, other = (everywhere - Turns(3, 3, every[at:at + 1]) for at in (0, 1))
        self.assertIs(self.timed(as_seen, one, other), False)

    def test_changes_of_the_greatest_nets(self):
        net = ring_net(83, 4, 40, 60, FAR)
        wide = self.timed(wider, net, 3, 40)
        self.assertEqual([len(wide.rooms()), len(wide)], [1600, 2400])
        self.assertEqual(self.timed(bent, net, 3, 40), self.timed(flat, wide, 3))
        self.assertEqual(len(self.timed(boxed, net, 0, 40)), 0)
        matrix = [[999, -998, 997, 0], [0, 999, 1, -999], [5, 0, -999, 1], [1, 2, 3, 999]]
        self.assertEqual(len(self.timed(turned, net, matrix)), 60)
        moved = net
        for room in net.rooms():
            moved = shifted(moved, room, [FAR, -FAR, 1, 0])
        self.assertEqual(self.timed(alike, net, moved), {room: (0, 0, 0, 0) for room in net.rooms()})

    def test_wide_nets_are_asked_whether_they_close(self):
        for seed in range(3):
            net = ring_net(seed, 2, 3, 6, 5)
            self.assertEqual(self.timed(closes, self.timed(wider, net, 0, 40)), closes(net))
            self.assertEqual(self.timed(closes, self.timed(bent, net, 1, 40)), closes(flat(net, 1)))


if __name__ == "__main__":
    unittest.main()

"""Point [5]: nets at the limits are asked in moderate time, and what is told of them is exact."""

import random
import time
import unittest

from helpers import depth_of_levels, levels_hold, make, raises, round_holds, sum_holds, way_holds
from repeatnets.errors import BadNumber
from repeatnets.levels import depth, is_levels, levels_of, parts_of, rank
from repeatnets.nets import Net, is_way
from repeatnets.sums import closes, is_sum, least_way, round_of, sum_with

FAR = 10 ** 15 - 1
SECONDS = 5


def greatest_net(seed, lean):
    """A net with 18 rooms, 30 ties and four axes that hangs together, with steps of 15 digits.

    Lean tells how many axes the steps do not climb: by 0 they are any steps, and by more each tie that is not
    level rises on one of the last axes.
    """
    chance = random.Random(seed)
    rooms = ["r%d" % at for at in range(18)]
    ends = [(at, (at + 1) % 18) for at in range(18)] + [(chance.randrange(18), chance.randrange(18)) for _ in range(12)]
    places = [[chance.randint(-FAR // 4, FAR // 4) for _ in range(4)] for _ in rooms]
    ties = []
    for at, (start, end) in enumerate(ends):
        step = [chance.randint(-FAR // 4, FAR // 4) for _ in range(4)]
        if lean:
            level = chance.randint(0, lean)
            step = step[:4 - level] + [0] * level
            if level < lean:
                step[3 - level] = abs(step[3 - level])
            step = [one + places[end][axis] - places[start][axis] for axis, one in enumerate(step)]
        ties.append(("t%d" % at, rooms[start], rooms[end], step))
    return 4, rooms, ties


def deepest_net():
    """A net with 18 rooms, 30 ties, four axes and steps of 15 digits whose levels are four deep.

    Eight rooms with rings of one tie are joined by twos, these by twos, and these again, each time by a tie there
    and a tie back; eight ties are cut in two by further rooms, two rooms are alone.
    """
    rooms = ["r%d" % at for at in range(18)]
    ties = [("o%d" % at, at, at, [FAR * (-1) ** at, 0, 0, 0]) for at in range(8)]
    for axis, size in ((1, 2), (2, 4), (3, 8)):
        for at in range(0, 8, size):
            step = [0, 0, 0, 0]
            step[axis] = FAR * (-1) ** (at // size)
            ties.append(("u%d.%d" % (axis, at), at, at + size // 2, step))
            ties.append(("d%d.%d" % (axis, at), at + size // 2, at, [0, 0, 0, 0]))
    cut = []
    for at, (name, start, end, step) in enumerate(ties[:8]):
        cut += [(name, start, 8 + at, step), (name + ".b", 8 + at, end, [0, 0, 0, 0])]
    return 4, rooms, [(name, rooms[start], rooms[end], step) for name, start, end, step in cut + ties[8:]]


class TestLimits(unittest.TestCase):
    def timed(self, call, *told):
        begun = time.process_time()
        answer = call(*told)
        self.assertLess(time.process_time() - begun, SECONDS, call.__name__)
        return answer

    def check(self, raw):
        net = make(raw)
        closed = self.timed(closes, net)
        counts = self.timed(round_of, net)
        paper = self.timed(levels_of, net)
        parts = self.timed(parts_of, net)
        deep = self.timed(depth, net)
        self.assertEqual([counts is not None, paper is None, deep is None], [closed] * 3)
        if closed:
            self.assertTrue(round_holds(raw, counts))
        else:
            self.assertTrue(levels_hold(raw[0], raw[1], raw[2], paper))
            self.assertEqual(depth_of_levels(paper), deep)
            self.assertTrue(self.timed(rank, net, paper, "r0", [FAR, 0, 0, -FAR]))
        for name, _, _, _ in raw[2]:
            told = self.timed(sum_with, net, name)
            if told is not None:
                self.assertTrue(sum_holds(raw, told))
                self.assertIn(name, told)
            self.assertTrue(told is None or all(name not in loose for _, loose, _ in parts))
        return deep

    def test_any_steps(self):
        self.assertIn(None, [self.check(greatest_net(seed, 0)) for seed in range(6)])

    def test_steps_that_climb(self):
        found = [self.check(greatest_net(seed, lean)) for lean in (1, 2, 3, 4) for seed in range(4)]
        self.assertEqual(set(found), {1})

    def test_the_deepest(self):
        raw = deepest_net()
        self.assertEqual([len(raw[1]), len(raw[2])], [18, 30])
        self.assertEqual(self.check(raw), 4)

    def test_one_room(self):
        chance = random.Random(5)
        for climb in (False, True):
            ties = []
            for at in range(30):
                step = [chance.randint(-FAR, FAR) for _ in range(4)]
                ties.append(("t%d" % at, "r0", "r0", [abs(step[0]) if climb else step[0]] + step[1:]))
            self.assertEqual(self.check((4, ["r0"], ties)), 1 if climb else None)

    def test_a_ring_one_step_from_closing(self):
        rooms = ["r%d" % at for at in range(18)]
        chance = random.Random(7)
        steps = [[chance.randint(-FAR // 20, FAR // 20) for _ in range(4)] for _ in range(17)]
        last = [-sum(step[axis] for step in steps) for axis in range(4)]
        for by, told in ((0, None), (1, 1), (-1, 1)):
            ties = [("t%d" % at, rooms[at], rooms[(at + 1) % 18], step)
                    for at, step in enumerate(steps + [last[:3] + [last[3] + by]])]
            self.assertEqual(self.check((4, rooms, ties)), told)

    def test_beyond_the_limits_is_no_error(self):
        rooms = ["r%d" % at for at in range(50)]
        ties = [("t%d" % at, rooms[at % 50], rooms[(at * 3 + 1) % 50], [10 ** 40 + at, -at]) for at in range(80)]
        net = Net(2, rooms, ties)
        self.assertIs(closes(net), False)
        self.assertIs(is_levels(net, levels_of(net)), True)
        more = net.more([("back", "r0", "r0", [-10 ** 40, 40])])
        self.assertIs(closes(more), True)
        self.assertIs(is_sum(more, round_of(more)), True)

    def test_least_ways_at_the_limits(self):
        chance = random.Random(9)
        for many in (1, 2, 5):
            rooms = ["r%d" % at for at in range(many)]
            ties = [("t%d" % at, rooms[at % many], rooms[(at + 1) % many], [chance.randint(-FAR, FAR) for _ in range(4)])
                    for at in range(9)]
            ties.append(("back", "r0", "r%d" % (many - 1), [0, 0, 0, 0]))
            raw = (4, rooms, ties)
            way = self.timed(least_way, make(raw), 8)
            self.assertTrue(way is None or way_holds(raw, way))
        steps = [[1, 0, 0, 0], [0, 1, 0, 0], [0, 0, 1, 0], [0, 0, 0, 1], [-1, -1, -1, -4]]
        ties = [("t%d" % at, "a", "a", [number * 10 ** 14 for number in step]) for at, step in enumerate(steps)]
        ties += [("w%d" % at, "a", "a", [10 ** 14 + at, 10 ** 14, 3, 3]) for at in range(5)]
        way = self.timed(least_way, Net(4, ["a"], ties), 8)
        self.assertEqual(len(way), 8)
        self.assertIs(is_way(Net(4, ["a"], ties), way), True)
        self.assertIsNone(self.timed(least_way, Net(4, ["a"], ties), 7))
        raises(self, BadNumber, [("number", -FAR)], lambda: least_way(Net(4, ["a"], ties), -FAR))


if __name__ == "__main__":
    unittest.main()

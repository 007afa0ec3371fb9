"""Point [5] for desks, texts, directions and costs: at the limits each question is answered in moderate time."""

import random
import time
import unittest

from helpers import make, raises, round_holds, sum_holds
from repeatnets.changes import flat, shifted, wider
from repeatnets.costs import cheap_round, cheap_sum, cheaper, cheapest, cores, is_price, price
from repeatnets.desks import Desk
from repeatnets.directions import falling, heights, is_falling
from repeatnets.errors import BadText
from repeatnets.nets import Net
from repeatnets.sums import closes
from repeatnets.texts import read, write
from repeatnets.turns import Turns
from test_limits import deepest_net, greatest_net
from test_limits_made import ring_net

FAR = 10 ** 15 - 1
DEAR = 10 ** 12 - 1
SECONDS = 5


class TestLimits(unittest.TestCase):
    def timed(self, call, *told):
        begun = time.process_time()
        answer = call(*told)
        self.assertLess(time.process_time() - begun, SECONDS, getattr(call, "__name__", call))
        return answer

    def thirty_deeds(self, seed, net):
        """Thirty deeds behind which the net is as great as before: ties are cut, rooms moved, ties put in again."""
        chance = random.Random(seed)
        deeds = []
        for at in range(10):
            name, start, end, step = net.ties()[chance.randrange(3) + 3 * at]
            deeds.append(("cut", name))
            deeds.append(("move", chance.choice(net.rooms()), [chance.randint(-FAR, FAR) for _ in range(net.axes)]))
            deeds.append(("tie", name, start, end, [chance.randint(-FAR, FAR) for _ in range(net.axes)]))
        return deeds

    def test_desks(self):
        for seed, raw in enumerate([greatest_net(0, 0), greatest_net(1, 2), greatest_net(3, 4), deepest_net()]):
            net = make(raw)
            desk = self.timed(Desk, net)
            deeds = self.thirty_deeds(seed, net)
            wanted = self.timed(desk.would, deeds)
            self.assertEqual(len(wanted), 30)
            told = self.timed(desk.trial, lambda one: [getattr(one, word)(*things) for word, *things in deeds])
            self.assertEqual(told, wanted)
            for (word, *things), closed in zip(deeds, wanted):
                self.assertIs(self.timed(getattr(desk, word), *things), closed)
                self.assertEqual(closes(desk.net()), closed)
                self.timed(desk.since)
            other = self.timed(desk.copy)
            self.assertEqual([self.timed(desk.undo) for _ in range(31)], [True] * 30 + [False])
            self.assertEqual(desk.net(), net)
            self.assertEqual([self.timed(desk.again) for _ in range(31)], [True] * 30 + [False])
            self.assertEqual([desk.net(), desk.since()], [other.net(), other.since()])

    def test_desks_of_the_greatest_nets(self):
        net = ring_net(141, 4, 40, 59, FAR)
        desk = self.timed(Desk, net)
        self.assertEqual(desk.net(), net)
        self.timed(desk.tie, "new", "r0", "r39", [FAR, -FAR, 0, 1])
        self.timed(desk.move, "r3", [FAR] * 4)
        self.assertEqual(len(desk.net()), 60)

    def check_text(self, thing, text):
        self.assertEqual(self.timed(write, thing), text)
        self.assertEqual(self.timed(read, text), thing)
        last = text.count("\n") + 1
        raises(self, BadText, [("line", last)], lambda: self.timed(read, text + " "))
        raises(self, BadText, [("line", last + 1)], lambda: self.timed(read, text + "\n"))

    def test_texts(self):
        net = ring_net(142, 4, 40, 44, FAR)
        text = self.timed(write, net)
        self.assertTrue(3000 < len(text) <= 4000, len(text))
        self.check_text(net, text)
        rooms = ["r.%d" % at for at in range(330)]
        net = Net(0, rooms, [])
        self.check_text(net, "\n".join(["net 0"] + ["room " + room for room in rooms]))
        ties = [("t%d" % at, "a", "a", []) for at in range(330)]
        net = Net(0, ["a"], ties)
        self.check_text(net, "\n".join(["net 0", "room a"] + ["tie t%d a a" % at for at in range(330)]))
        every = ~Turns(3, 3, [])
        self.assertTrue(3000 < len(write(every)) <= 4000)
        self.check_text(every, write(every))
        name = "a" * 3900
        self.check_text(Net(0, [name], []), "net 0\nroom " + name)
        great = int("9" * 3900)
        self.check_text(Net(1, ["a"], [("e", "a", "a", [-great])]), "net 1\nroom a\ntie e a a -" + "9" * 3900)

    def test_texts_that_are_none(self):
        for sign in "a0 \n-n":
            raises(self, BadText, [("line", 1)], lambda: self.timed(read, sign * 4000))
        raises(self, BadText, [("line", 3)], lambda: self.timed(read, "net 1\nroom a\ntie e a a " + "0" * 3900))
        raises(self, BadText, [("line", 3)], lambda: self.timed(read, "net 1\nroom a" + "\n" * 3900))
        raises(self, BadText, [("line", 3)], lambda: self.timed(read, "net 1\nroom a\ntie" + " " * 3900))

    def check_direction(self, net, direction):
        told = self.timed(heights, net, direction)
        ring = self.timed(falling, net, direction)
        self.assertNotEqual(told is None, ring is None)
        if ring is not None:
            self.assertIs(self.timed(is_falling, net, direction, ring), True)
            return True
        height = dict(zip(net.rooms(), told))
        rises = [sum(one * other for one, other in zip(direction, step)) + height[end] - height[start]
                 for _, start, end, step in net.ties()]
        self.assertGreaterEqual(min(rises), 0)
        self.assertEqual(min(told), 0)
        return False

    def test_directions(self):
        chance = random.Random(143)
        found = []
        for seed in range(30):
            for rooms in (40, 18, 5, 1):
                net = ring_net(seed, 4, rooms, 60, FAR)
                found.append(self.check_direction(net, [chance.randint(-10 ** 20, 10 ** 20) for _ in range(4)]))
                rising = Net(4, net.rooms(), [tie[:3] + ([abs(tie[3][0])] + list(tie[3][1:]),) for tie in net.ties()])
                for room in net.rooms():
                    rising = shifted(rising, room, [chance.randint(0, FAR), 0, 0, 0])
                found.append(self.check_direction(rising, [1, 0, 0, 0]))
        self.assertEqual(set(found), {True, False})

    def test_directions_of_wide_nets(self):
        for seed in range(3):
            net = self.timed(wider, ring_net(seed, 2, 40, 60, 50), 0, 40)
            for direction in ([1, 1], [0, -1], [0, 0]):
                self.check_direction(net, direction)
        chain = ["r%d" % at for at in range(1600)]
        ties = [("t%d" % at, chain[at], chain[(at + 1) % 1600], [-1 if at else 1598]) for at in range(1600)]
        net = Net(1, chain[::-1], ties)
        self.assertIs(self.check_direction(net, [1]), True)
        self.assertIs(self.check_direction(net.without(["t7"]), [1]), False)

    def test_costs(self):
        chance = random.Random(144)
        kinds = set()
        nets = [make(greatest_net(seed, 0)) for seed in range(4)] + [make(deepest_net())]
        nets += [ring_net(seed, axes, rooms, 30, reach) for seed in range(3) for axes in (0, 1, 2, 4)
                 for rooms in (18, 6, 1) for reach in (1, FAR)]
        for net in nets:
            raw = (net.axes, net.rooms(), net.ties())
            costs = {tie[0]: chance.randint(-DEAR, DEAR) for tie in net.ties()}
            least, found = self.timed(cheapest, net, costs), self.timed(cores, net)
            told = self.timed(price, net, costs)
            self.assertEqual([least is None, told is None], [not found] * 2)
            kinds.add(bool(found))
            if found:
                self.assertIs(self.timed(is_price, net, costs, told), True)
                above, below = least
                summed, rounded = self.timed(cheap_sum, net, costs), self.timed(cheap_round, net, costs)
                self.assertTrue(sum_holds(raw, summed))
                for counts in (summed, rounded or summed):
                    self.assertEqual(sum(count * (below * costs[name] - above) for name, count in counts.items()), 0)
                self.assertTrue(rounded is None or round_holds(raw, rounded))
                lesser = self.timed(cheaper, net, costs, above * DEAR + 1, below * DEAR)
                self.assertTrue(round_holds(raw, lesser))
                self.assertIsNone(self.timed(cheaper, net, costs, above, below))
        self.assertEqual(kinds, {True, False})

    def test_costs_of_wide_nets(self):
        told = []
        for seed in range(6):
            net = ring_net(seed, 2, 6, 12, 3)
            costs = {tie[0]: at for at, tie in enumerate(net.ties())}
            wide = self.timed(wider, net, 0, 10)
            dear = {tie[0]: costs[tie[0].rsplit(".", 1)[0]] for tie in wide.ties()}
            told.append(self.timed(cheapest, wide, dear))
            self.assertEqual(told[-1], cheapest(net, costs))
            self.assertIs(self.timed(is_price, wide, dear, self.timed(price, wide, dear)), told[-1] is not None)
        self.assertGreater(len(set(told)), 3)

    def test_wide_nets_are_asked_whether_they_close(self):
        for seed, reach in enumerate((1, 5, FAR)):
            for axes in (2, 4):
                net = ring_net(seed, axes, 18, 30, reach)
                self.assertEqual(self.timed(closes, self.timed(wider, net, 0, 40)), closes(net))
                flatter = flat(net, 1)
                self.assertEqual(self.timed(closes, self.timed(flat, self.timed(wider, net, 1, 40), 1)), closes(flatter))


if __name__ == "__main__":
    unittest.main()

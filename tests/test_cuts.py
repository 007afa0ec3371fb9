"""Points [3] and [25]: least cuts among named ties, and the ties without which a net does not close."""

import itertools
import random
import unittest

from helpers import any_objects, make, raises, small_nets, sums_by_search, hangs
from repeatnets.cuts import cuts, vital
from repeatnets.errors import NoTie
from repeatnets.nets import Net
from repeatnets.sums import closes

RINGS = (1, ["a", "b"], [("s", "a", "b", [0]), ("t", "b", "a", [0]), ("u", "a", "a", [1]), ("v", "b", "b", [-1]),
                         ("w", "b", "a", [5])])


def cuts_by_trial(net, names):
    """All sets of the names tried one by one, shorter ones first: those without a lesser one that leave nothing."""
    found = []
    for length in range(len(names) + 1):
        for cut in itertools.combinations(sorted(names), length):
            if not any(set(less) <= set(cut) for less in found) and not closes(net.without(list(cut))):
                found.append(cut)
    return found


class TestCuts(unittest.TestCase):
    def check(self, net, names):
        told = cuts(net, names)
        self.assertEqual(told, cuts_by_trial(net, names), (net.ties(), names))
        self.assertIs(type(told), list)
        for cut in told:
            self.assertIs(type(cut), tuple)
            self.assertEqual(list(cut), sorted(set(cut)))
        return told

    def test_rings(self):
        net = make(RINGS)
        self.assertEqual(cuts(net, ["s", "t", "u", "v", "w"]), [("s",), ("t", "v"), ("t", "w")])
        self.assertEqual(cuts(net, ["w", "v", "u", "t"]), [("t", "v"), ("t", "w")])
        self.assertEqual([cuts(net, ["t"]), cuts(net, ["u", "v", "w"]), cuts(net, [])], [[], [], []])
        self.assertEqual([cuts(net, ["w"]), cuts(net, ["s"])], [[], [("s",)]])
        self.assertEqual([cuts(net.without(["s"]), ["t", "u"]), cuts(net.without(["s"]), [])], [[()], [()]])

    def test_all_sets(self):
        chance = random.Random(51)
        found = {}
        for raw in small_nets(52, 500, most_rooms=4, most_ties=9, most_axes=3, reach=2):
            names = [tie[0] for tie in raw[2]]
            chance.shuffle(names)
            told = self.check(make(raw), names[:chance.randint(0, 9)])
            key = "many" if len(told) > 1 else "none" if not told else len(told[0])
            found[key] = found.get(key, 0) + 1
        self.assertTrue(all(found.get(key, 0) > 10 for key in ("many", "none", 0, 1)), found)

    def test_many_ways_there_and_back(self):
        for there, back in ((3, 2), (4, 4), (5, 5)):
            ties = [("t%d" % at, "a", "b", []) for at in range(there)] + [("s%d" % at, "b", "a", []) for at in range(back)]
            net = Net(0, ["a", "b"], ties)
            told = self.check(net, [tie[0] for tie in ties])
            self.assertEqual(sorted(map(len, told)), sorted([there, back]))

    def test_two_of_three_everywhere(self):
        ties = [("%s%d" % (sign, at), "a", "a", [1 if sign == "e" else -1]) for at in range(3) for sign in "ew"]
        self.assertEqual(self.check(Net(1, ["a"], ties), [tie[0] for tie in ties]),
                         [("e0", "e1", "e2"), ("w0", "w1", "w2")])

    def test_agrees_with_the_rounds_of_a_search(self):
        for raw in small_nets(53, 80, most_rooms=2, most_ties=5, most_axes=1):
            rounds = [told for told in sums_by_search(raw, 3) if hangs([tie for tie in raw[2] if tie[0] in told])]
            names = [tie[0] for tie in raw[2]]
            for cut in cuts(make(raw), names):
                self.assertTrue(all(any(name in told for name in cut) for told in rounds))
                for name in cut:
                    self.assertTrue(any(not any(other in told for other in cut if other != name) for told in rounds))

    def test_kinds_and_names(self):
        net = make(RINGS)
        self.assertEqual(cuts(net=net, names=("v", "t")), [("t", "v")])
        told = cuts(net, ["s"])
        told.append(())
        self.assertEqual(cuts(net, ["s"]), [("s",)])
        names = ["u", "t"]
        cuts(net, names)
        self.assertEqual(names, ["u", "t"])
        self.assertEqual(net, make(RINGS))

    def test_no_list(self):
        for net in (make(RINGS), make(RINGS).only([])):
            for thing in any_objects() + ["s", {"s": 1}]:
                if not isinstance(thing, (list, tuple)):
                    raises(self, NoTie, [("name", thing)], lambda: cuts(net, thing))

    def test_no_tie(self):
        for net in (make(RINGS), make(RINGS).without(["s"])):
            for thing in any_objects() + ["x", "S", ["t"]]:
                raises(self, NoTie, [("name", thing)], lambda: cuts(net, ["t", thing, "zz"]))
                raises(self, NoTie, [("name", thing)], lambda: cuts(net, (thing,)))

    def test_a_name_twice(self):
        net = make(RINGS)
        raises(self, NoTie, [("name", "t")], lambda: cuts(net, ["t", "t"]))
        raises(self, NoTie, [("name", "u")], lambda: cuts(net, ["t", "u", "w", "u", "t"]))
        raises(self, NoTie, [("name", "t")], lambda: cuts(net, ["t", "u", "t", None]))
        raises(self, NoTie, [("name", None)], lambda: cuts(net, ["t", "u", None, "t"]))


class TestVital(unittest.TestCase):
    def test_rings(self):
        net = make(RINGS)
        self.assertEqual(vital(net), ["s"])
        self.assertEqual(vital(net.without(["t"])), ["s", "v", "w"])
        self.assertEqual(vital(net.only(["s", "t", "w"])), ["s", "t"])
        self.assertEqual(vital(net.without(["s"])), [])
        self.assertEqual(vital(net=net.only([])), [])

    def test_all_ties_one_by_one(self):
        found = {}
        for raw in small_nets(54, 400, most_rooms=4, most_ties=7, most_axes=3, reach=2):
            net = make(raw)
            told = vital(net)
            self.assertIs(type(told), list)
            wanted = [tie[0] for tie in raw[2] if closes(net) and not closes(net.without([tie[0]]))]
            self.assertEqual(told, wanted)
            found[len(told)] = found.get(len(told), 0) + 1
        self.assertTrue(all(found.get(many, 0) > 5 for many in (0, 1, 2, 3)), found)

    def test_order_of_the_net(self):
        ties = [("z", "a", "b", []), ("b", "c", "a", []), ("m", "b", "c", [])]
        self.assertEqual(vital(Net(0, ["a", "b", "c"], ties)), ["z", "b", "m"])
        self.assertEqual(cuts(Net(0, ["a", "b", "c"], ties), ["z", "b", "m"]), [("b",), ("m",), ("z",)])

    def test_new_each_time(self):
        net = make(RINGS)
        vital(net).clear()
        self.assertEqual(vital(net), ["s"])


if __name__ == "__main__":
    unittest.main()

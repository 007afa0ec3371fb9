"""Points [3] and [6] to [9]: nets, their operators, closed ways."""

import unittest

from helpers import any_objects, is_plain_int, make, raises, small_nets, way_holds, ways_by_search
from repeatnets.errors import BadAxes, BadRooms, BadTie, NoTie, TieTaken, UnlikeAxes
from repeatnets.nets import Net, is_way

TIES = [("e", "a", "b", [1, -2]), ("f", "b", "a", [0, 5]), ("g", "b", "b", [0, 0])]
TOLD = [("e", "a", "b", (1, -2)), ("f", "b", "a", (0, 5)), ("g", "b", "b", (0, 0))]


def plain():
    return Net(2, ["a", "b"], TIES)


class TestMade(unittest.TestCase):
    def test_tells_what_it_was_made_of(self):
        net = plain()
        self.assertEqual(net.axes, 2)
        self.assertIs(type(net.axes), int)
        self.assertEqual(net.rooms(), ["a", "b"])
        self.assertIs(type(net.rooms()), list)
        self.assertEqual(net.ties(), TOLD)
        self.assertIs(type(net.ties()), list)
        for tie in net.ties() + [net.tie("e"), net.tie("g")]:
            self.assertIs(type(tie), tuple)
            self.assertIs(type(tie[3]), tuple)
        self.assertEqual(net.tie("f"), TOLD[1])
        self.assertEqual(len(net), 3)

    def test_orders_are_kept(self):
        net = Net(1, ["z", "b", "0.a"], [("9", "z", "b", [3]), ("1", "b", "0.a", [2]), ("5", "z", "z", [1])])
        self.assertEqual(net.rooms(), ["z", "b", "0.a"])
        self.assertEqual([tie[0] for tie in net.ties()], ["9", "1", "5"])

    def test_by_name_and_by_position(self):
        self.assertEqual(Net(axes=2, rooms=["a", "b"], ties=TIES), plain())
        self.assertEqual(plain().tie(name="e"), TOLD[0])
        self.assertEqual(plain().without(names=["e"]), plain().without(["e"]))
        self.assertEqual(plain().only(names=["e"]), plain().only(["e"]))
        self.assertEqual(plain().more(ties=[("h", "a", "a", [1, 1])]), plain().more([("h", "a", "a", [1, 1])]))
        self.assertIs(is_way(net=plain(), thing=["g"]), True)

    def test_tuples_for_lists_and_lists_for_tuples(self):
        self.assertEqual(Net(2, ("a", "b"), tuple((n, s, e, tuple(step)) for n, s, e, step in TIES)), plain())
        self.assertEqual(Net(2, ["a", "b"], [[n, s, e, step] for n, s, e, step in TIES]), plain())
        self.assertEqual(plain().without(("e", "f")), plain().without(["e", "f"]))
        self.assertEqual(plain().only(("e", "f")), plain().only(["e", "f"]))
        self.assertEqual(plain().more((["h", "a", "a", (1, 1)],)), plain().more([("h", "a", "a", [1, 1])]))

    def test_no_axes_and_four(self):
        self.assertEqual(Net(0, ["a"], [("t", "a", "a", [])]).ties(), [("t", "a", "a", ())])
        self.assertEqual(Net(4, ["a"], [("t", "a", "a", [1, 2, 3, 4])]).tie("t"), ("t", "a", "a", (1, 2, 3, 4)))
        self.assertEqual(len(Net(3, ["a"], [])), 0)
        self.assertEqual(Net(3, ["a"], ()).ties(), [])

    def test_a_tie_may_have_the_name_of_a_room(self):
        self.assertEqual(len(Net(0, ["a"], [("a", "a", "a", [])])), 1)

    def test_names(self):
        rooms = ["a", "z", "0", "9", ".", "..", "a.0", "abcxyz.0189"]
        self.assertEqual(Net(0, rooms, []).rooms(), rooms)
        for name in ["", "A", "a b", "a\n", "a_b", "a-b", "\u00e9", "\u0663", "\u00b2", "a,", " "]:
            words = ["a", name]
            raises(self, BadRooms, [("words", words)], lambda: Net(0, words, []))
            raises(self, BadTie, [("index", 0)], lambda: Net(0, ["a"], [(name, "a", "a", [])]))

    def test_beyond_the_limits_is_no_error(self):
        rooms = ["r%d" % at for at in range(100)]
        ties = [("t%d" % at, rooms[at % 100], rooms[at * 7 % 100], [10 ** 30 * at]) for at in range(200)]
        net = Net(1, rooms, ties)
        self.assertEqual(len(net), 200)
        self.assertEqual(net.tie("t199")[3], (199 * 10 ** 30,))


class TestBadNets(unittest.TestCase):
    def test_bad_axes(self):
        for thing in any_objects() + [-1, 5, 100, "2", 2.0]:
            if type(thing) is int and 0 <= thing <= 4:
                self.assertEqual(Net(thing, ["a"], []).axes, thing)
            else:
                raises(self, BadAxes, [("axes", thing)], lambda: Net(thing, ["a"], []))

    def test_bad_rooms(self):
        good = [["a"], ["e"], ("e",)]
        for thing in any_objects() + [["a", "b", "a"], "ab", ["a", ["b"]], ["a", None], [["a"]], ("a", True)]:
            if thing in good:
                self.assertEqual(Net(1, thing, []).rooms(), list(thing))
            else:
                raises(self, BadRooms, [("words", thing)], lambda: Net(1, thing, []))

    def test_ties_that_are_no_list(self):
        for thing in any_objects():
            if not isinstance(thing, (list, tuple)):
                raises(self, BadTie, [("index", 0)], lambda: Net(1, ["a"], thing))
                raises(self, BadTie, [("index", 0)], lambda: plain().more(thing))

    def test_any_object_as_a_tie(self):
        for thing in any_objects():
            ties = [("x", "a", "a", [1]), ("y", "a", "a", [1]), thing, None]
            index = 3 if thing == ("e", "a", "a", [0]) else 2
            raises(self, BadTie, [("index", index)], lambda: Net(1, ["a"], ties))

    def test_any_object_within_a_tie(self):
        for thing in any_objects():
            if thing != "a":
                raises(self, BadTie, [("index", 0)], lambda: Net(1, ["a"], [("x", thing, "a", [1])]))
                raises(self, BadTie, [("index", 0)], lambda: Net(1, ["a"], [("x", "a", thing, [1])]))
            if thing not in ("a", "e", "zz", "a.0"):
                raises(self, BadTie, [("index", 0)], lambda: Net(1, ["a"], [(thing, "a", "a", [1])]))
            if type(thing) not in (list, tuple) or len(thing) != 1 or not is_plain_int(thing[0]):
                raises(self, BadTie, [("index", 0)], lambda: Net(1, ["a"], [("x", "a", "a", thing)]))
            if type(thing) is not int:
                raises(self, BadTie, [("index", 0)], lambda: Net(1, ["a"], [("x", "a", "a", [thing])]))
                raises(self, BadTie, [("index", 0)], lambda: Net(2, ["a"], [("x", "a", "a", [0, thing])]))

    def test_bools_are_no_integers(self):
        raises(self, BadAxes, [("axes", True)], lambda: Net(True, ["a"], []))
        raises(self, BadTie, [("index", 0)], lambda: Net(1, ["a"], [("x", "a", "a", [True])]))

    def test_steps_of_other_lengths_and_ties_of_other_lengths(self):
        for step in ([], [1], [1, 2, 3], "12", {0: 1, 1: 2}):
            raises(self, BadTie, [("index", 1)], lambda: Net(2, ["a"], [("x", "a", "a", [1, 2]), ("y", "a", "a", step)]))
        for tie in (("y", "a", "a"), ("y", "a", "a", [1, 2], 0), "yaaz", ["y", "b", "a", [1, 2]]):
            raises(self, BadTie, [("index", 1)], lambda: Net(2, ["a"], [("x", "a", "a", [1, 2]), tie]))

    def test_the_first_bad_tie_is_told_and_names_are_taken_once(self):
        ties = [("x", "a", "a", [1]), ("y", "a", "a", [1]), ("x", "a", "a", [2]), None]
        raises(self, BadTie, [("index", 2)], lambda: Net(1, ["a"], ties))
        raises(self, BadTie, [("index", 0)], lambda: Net(1, ["a"], [None] + ties))

    def test_which_error_goes_first(self):
        raises(self, BadAxes, [("axes", None)], lambda: Net(None, None, None))
        raises(self, BadAxes, [("axes", 7)], lambda: Net(7, [], 0))
        words = []
        raises(self, BadRooms, [("words", words)], lambda: Net(1, words, 0))


class TestAsked(unittest.TestCase):
    def test_in_tells_of_any_object(self):
        net = plain()
        for thing in any_objects() + ["f", "g", "b"]:
            self.assertIs(thing in net, type(thing) is str and thing in ("e", "f", "g"))

    def test_tie_of_any_object(self):
        net = plain()
        for thing in any_objects():
            if thing != "e":
                raises(self, NoTie, [("name", thing)], lambda: net.tie(thing))

    def test_equal(self):
        net = plain()
        self.assertIs(net == plain(), True)
        self.assertIs(net != plain(), False)
        for other in [
            Net(2, ["b", "a"], TIES), Net(2, ["a", "b", "c"], TIES), Net(2, ["a", "b"], TIES[::-1]),
            Net(2, ["a", "b"], TIES[:2]), Net(2, ["a", "b"], [("e", "a", "b", [1, 2])] + TIES[1:]),
            Net(2, ["a", "b"], [("h", "a", "b", [1, -2])] + TIES[1:]),
            Net(2, ["a", "b"], [("e", "b", "b", [1, -2])] + TIES[1:]),
        ]:
            self.assertIs(net == other, False)
            self.assertIs(net != other, True)
        self.assertIs(Net(1, ["a"], []) == Net(2, ["a"], []), False)

    def test_a_net_equals_nothing_else(self):
        for thing in any_objects() + [(2, ["a", "b"], TIES), ["a", "b"], TIES, TOLD]:
            self.assertIs(plain() == thing, False)
            self.assertIs(thing == plain(), False)
            self.assertIs(plain() != thing, True)


class TestMadeOfOthers(unittest.TestCase):
    def test_without(self):
        self.assertEqual(plain().without(["f"]), Net(2, ["a", "b"], [TIES[0], TIES[2]]))
        self.assertEqual(plain().without(["g", "e", "g"]), Net(2, ["a", "b"], [TIES[1]]))
        self.assertEqual(plain().without([]), plain())
        self.assertEqual(plain().without(["e", "f", "g"]), Net(2, ["a", "b"], []))

    def test_only(self):
        self.assertEqual(plain().only(["g", "e"]), Net(2, ["a", "b"], [TIES[0], TIES[2]]))
        self.assertEqual(plain().only(["f", "f"]), Net(2, ["a", "b"], [TIES[1]]))
        self.assertEqual(plain().only([]), Net(2, ["a", "b"], []))

    def test_without_and_only_of_wrong_things(self):
        for deed in (plain().without, plain().only):
            for thing in any_objects():
                if not isinstance(thing, (list, tuple)):
                    raises(self, NoTie, [("name", thing)], lambda: deed(thing))
                if thing not in ("e", "f", "g"):
                    raises(self, NoTie, [("name", thing)], lambda: deed(["e", thing, None]))
            raises(self, NoTie, [("name", "h")], lambda: deed(["e", "h", "i"]))
            raises(self, NoTie, [("name", "efg")], lambda: deed("efg"))

    def test_more(self):
        more = [("h", "b", "a", [7, 7]), ("i", "a", "a", [0, 1])]
        self.assertEqual(plain().more(more), Net(2, ["a", "b"], TIES + more))
        self.assertEqual(plain().more([]), plain())

    def test_more_of_wrong_things(self):
        good = ("h", "b", "a", [7, 7])
        for thing in [("e", "a", "a", [0, 0]), good, ("i", "c", "a", [0, 0]), ("i", "a", "c", [0, 0]),
                      ("i", "a", "a", [0]), ("i", "a", "a", [0, False])] + any_objects():
            raises(self, BadTie, [("index", 1)], lambda: plain().more([good, thing, None]))
        raises(self, BadTie, [("index", 0)], lambda: plain().more([TIES[2]]))

    def test_joined(self):
        other = Net(2, ["c", "b", "d"], [("x", "c", "b", [1, 1]), ("w", "b", "d", [0, 0])])
        joined = plain() | other
        self.assertEqual(joined.rooms(), ["a", "b", "c", "d"])
        self.assertEqual([tie[0] for tie in joined.ties()], ["e", "f", "g", "x", "w"])
        self.assertEqual((other | plain()).rooms(), ["c", "b", "d", "a"])
        self.assertEqual(joined.without(["x", "w"]).ties(), plain().ties())
        self.assertEqual(plain() | Net(2, ["a"], []), plain())

    def test_joined_wrongly(self):
        raises(self, UnlikeAxes, [], lambda: plain() | Net(1, ["a"], []))
        raises(self, UnlikeAxes, [], lambda: plain() | Net(3, ["a"], [("e", "a", "a", [0, 0, 0])]))
        other = Net(2, ["a"], [("x", "a", "a", [0, 0]), ("g", "a", "a", [0, 0]), ("e", "a", "a", [0, 0])])
        raises(self, TieTaken, [("name", "g")], lambda: plain() | other)
        raises(self, TieTaken, [("name", "e")], lambda: plain() | plain())

    def test_backward(self):
        told = [("e", "b", "a", (-1, 2)), ("f", "a", "b", (0, -5)), ("g", "b", "b", (0, 0))]
        self.assertEqual((~plain()).ties(), told)
        self.assertEqual((~plain()).rooms(), ["a", "b"])
        self.assertEqual(~~plain(), plain())

    def test_the_net_itself_stays(self):
        net = plain()
        for deed in (lambda: net.without(["e"]), lambda: net.only([]), lambda: net.more([("h", "a", "a", [1, 1])]),
                     lambda: net | Net(2, ["c"], []), lambda: ~net):
            deed()
            self.assertEqual(net, plain())
        for deed in (lambda: net.without(["h"]), lambda: net.more([("h", "a", "a", [1, 1]), 0]), lambda: net | net):
            self.assertRaises(ValueError, deed)
            self.assertEqual(net, plain())


class TestCopies(unittest.TestCase):
    def test_what_was_passed_is_not_changed_and_changes_nothing_later(self):
        rooms = ["a", "b"]
        ties = [["e", "a", "b", [1, -2]], ["f", "b", "a", [0, 5]], ["g", "b", "b", [0, 0]]]
        net = Net(2, rooms, ties)
        self.assertEqual((rooms, ties[0], len(ties)), (["a", "b"], ["e", "a", "b", [1, -2]], 3))
        ties[0][3][0] = 99
        ties[1][1] = "a"
        ties.pop()
        rooms.append("c")
        self.assertEqual(net, plain())

    def test_further_ties_are_copied(self):
        more = [["h", "a", "a", [1, 1]]]
        net = plain().more(more)
        more[0][3][0] = 5
        more[0][0] = "e"
        more.append(None)
        self.assertEqual(net.tie("h"), ("h", "a", "a", (1, 1)))
        self.assertEqual(len(net), 4)

    def test_names_are_not_changed(self):
        names = ["g", "e", "g"]
        plain().without(names)
        plain().only(names)
        self.assertEqual(names, ["g", "e", "g"])

    def test_told_lists_are_new(self):
        net = plain()
        net.rooms().append("c")
        net.ties().clear()
        self.assertIsNot(net.rooms(), net.rooms())
        self.assertEqual(net, plain())
        self.assertEqual(net.rooms(), ["a", "b"])
        self.assertEqual(net.ties(), TOLD)


class TestWays(unittest.TestCase):
    def test_closed_ways(self):
        net = Net(1, ["a", "b"], [("u", "a", "b", [2]), ("v", "b", "a", [-2]), ("w", "b", "a", [1]),
                                  ("x", "a", "a", [-3]), ("o", "a", "a", [0])])
        for way in (["u", "v"], ("v", "u"), ["o"], ["u", "w", "x"], ["x", "u", "w"], ["u", "v", "u", "v"], ["o", "o"],
                    ["w", "x", "u"]):
            self.assertIs(is_way(net, way), True, way)
        for way in ([], ["u"], ["u", "w"], ["x"], ["v", "x", "u", "u"], ["u", "u"], ["w", "v"], ["u", "x", "w"],
                    "uv", "o", ["o", None], ["o", "q"], {"o": 1}, ["x", "v", "u"], [["o"]]):
            self.assertIs(is_way(net, way), False, way)

    def test_any_object(self):
        net = Net(0, ["a"], [("e", "a", "a", [])])
        for thing in any_objects():
            self.assertIs(is_way(net, thing), type(thing) in (list, tuple) and list(thing) == ["e"])
            self.assertIs(is_way(net, [thing]), type(thing) is str and thing == "e")
            self.assertIs(is_way(net, ["e", thing, "e"]), type(thing) is str and thing == "e")

    def test_each_axis_counts(self):
        for axis in range(4):
            step = [int(at == axis) for at in range(4)]
            net = Net(4, ["a"], [("s", "a", "a", step), ("t", "a", "a", [-number for number in step])])
            self.assertIs(is_way(net, ["s"]), False)
            self.assertIs(is_way(net, ["s", "t"]), True)
            self.assertIs(is_way(net, ["s", "t", "t"]), False)

    def test_long_integers(self):
        net = Net(1, ["a"], [("s", "a", "a", [10 ** 15 - 1]), ("t", "a", "a", [1 - 10 ** 15]), ("o", "a", "a", [1])])
        self.assertIs(is_way(net, ["s", "t"]), True)
        self.assertIs(is_way(net, ["s", "t", "o"]), False)

    def test_ways_of_small_nets(self):
        for raw in small_nets(11, 200):
            way = ways_by_search(raw, 5)
            if way is not None:
                self.assertTrue(way_holds(raw, way))
                self.assertIs(is_way(make(raw), way), True)
                self.assertIs(is_way(make(raw), way[:-1]), way_holds(raw, way[:-1]))
                self.assertIs(is_way(make(raw), way[::-1]), way_holds(raw, way[::-1]))
                self.assertIs(is_way(~make(raw), way[::-1]), True)


if __name__ == "__main__":
    unittest.main()

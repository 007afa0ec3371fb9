"""Points [3], [4], [32], [33] and [34]: desks, against a plain model that keeps all nets so far."""

import random
import unittest

from helpers import any_objects, make, raises, small_nets
from repeatnets.desks import Desk
from repeatnets.errors import BadDeed, BadPlace, BadRooms, BadTie, NetError, NoRoom, NoTie, TieTaken
from repeatnets.nets import Net
from repeatnets.sums import closes

PAIR = (1, ["a", "b"], [("s", "a", "b", [1]), ("t", "b", "a", [0])])


def done_by_hand(raw, deed):
    """The raw net behind a deed that can be done."""
    axes, rooms, ties = raw
    word, *things = deed
    if word == "room":
        return axes, rooms + things, ties
    if word == "tie":
        name, start, end, step = things
        return axes, rooms, ties + [(name, start, end, list(step))]
    if word == "cut":
        return axes, rooms, [tie for tie in ties if tie[0] != things[0]]
    room, place = things
    moved = []
    for name, start, end, step in ties:
        if end == room:
            step = [one + other for one, other in zip(step, place)]
        if start == room:
            step = [one - other for one, other in zip(step, place)]
        moved.append((name, start, end, step))
    return axes, rooms, moved


class Model:
    """The list of nets so far, whether each closes, and where the desk stands."""

    def __init__(self, raw):
        self.nets = [raw]
        self.closing = [closes(make(raw))]
        self.at = 0

    def copy(self):
        other = Model(self.nets[0])
        other.nets, other.closing, other.at = list(self.nets), list(self.closing), self.at
        return other

    def do(self, deed):
        raw = done_by_hand(self.nets[self.at], deed)
        del self.nets[self.at + 1:], self.closing[self.at + 1:]
        self.nets.append(raw)
        self.closing.append(closes(make(raw)))
        self.at += 1
        return self.closing[self.at]

    def undo(self):
        if self.at == 0:
            return False
        self.at -= 1
        return True

    def again(self):
        if self.at == len(self.nets) - 1:
            return False
        self.at += 1
        return True

    def since(self):
        found = [number for number in range(self.at + 1) if all(self.closing[number:self.at + 1])]
        return found[0] if found else None


def some_deed(chance, raw, serial):
    """A deed that can be done on a net; None if by chance there is none."""
    axes, rooms, ties = raw
    word = chance.choice(["room", "tie", "tie", "tie", "cut", "cut", "move"])
    place = [chance.randint(-1, 1) for _ in range(axes)]
    if chance.random() < 0.5:
        place = tuple(place)
    if word == "room":
        return ("room", "n%d" % serial)
    if word == "tie":
        return ("tie", "d.%d" % serial, chance.choice(rooms), chance.choice(rooms), place)
    if word == "cut":
        return ("cut", chance.choice(ties)[0]) if ties else None
    return ("move", chance.choice(rooms), place)


def do(desk, deed):
    word, *things = deed
    return getattr(desk, word)(*things)


def wrong_deeds(desk):
    """Deeds that no desk with rooms of few signs can do, and the errors that they raise."""
    rooms, ties = desk.net().rooms(), desk.net().ties()
    axes = desk.net().axes
    noughts = [0] * axes
    yield ("room", rooms[-1]), BadRooms
    yield ("room", "A"), BadRooms
    yield ("tie", "", rooms[0], rooms[0], noughts), BadTie
    yield ("tie", "zz", "none", rooms[0], noughts), NoRoom
    yield ("tie", "zz", rooms[0], None, noughts), NoRoom
    yield ("tie", "zz", rooms[0], rooms[0], noughts + [0]), BadPlace
    if ties:
        yield ("tie", ties[0][0], rooms[0], rooms[0], noughts), TieTaken
    yield ("cut", "zz"), NoTie
    yield ("move", "none", noughts), NoRoom
    yield ("move", rooms[0], None), BadPlace


class TestRows(unittest.TestCase):
    def check(self, desk, model):
        self.assertEqual(desk.net(), make(model.nets[model.at]))
        self.assertIs(desk.is_closed(), model.closing[model.at])
        self.assertEqual(desk.since(), model.since())
        self.assertIs(type(desk.since()), type(model.since()))

    def check_whole(self, desk, model):
        """The same, also of all that can be taken back and done again; the desk stays as it is."""
        desk, model = desk.copy(), model.copy()
        self.check(desk, model)
        while True:
            told = desk.again()
            self.assertIs(told, model.again())
            if not told:
                break
            self.check(desk, model)
        while True:
            told = desk.undo()
            self.assertIs(told, model.undo())
            if not told:
                break
            self.check(desk, model)

    def check_row(self, chance, raw, length):
        desk, model = Desk(make(raw)), Model(raw)
        self.check(desk, model)
        told = []
        for serial in range(length):
            chosen = chance.random()
            if chosen < 0.2:
                self.assertIs(desk.undo(), model.undo())
            elif chosen < 0.35:
                self.assertIs(desk.again(), model.again())
            elif chosen < 0.42:
                deed, error = chance.choice(list(wrong_deeds(desk)))
                with self.assertRaises(error):
                    do(desk, deed)
            else:
                deed = some_deed(chance, model.nets[model.at], serial)
                if deed is not None:
                    wanted = closes(make(done_by_hand(model.nets[model.at], deed)))
                    self.assertEqual(desk.would([deed]), [wanted])
                    self.assertIs(do(desk, deed), model.do(deed))
            self.check(desk, model)
            told.append(desk.since())
        self.check_whole(desk, model)
        return told

    def test_many_rows(self):
        chance = random.Random(91)
        told = []
        for raw in small_nets(92, 120, most_rooms=3, most_ties=4, most_axes=2):
            told += self.check_row(chance, raw, 24)
        for value in (None, 0, 1, 2, 3, 5):
            self.assertGreater(told.count(value), 10, value)

    def test_rows_that_begin_with_a_net_that_closes(self):
        chance = random.Random(93)
        raw = (1, ["a"], [("e", "a", "a", [1]), ("w", "a", "a", [-1])])
        told = [value for _ in range(40) for value in self.check_row(chance, raw, 20)]
        self.assertGreater(told.count(0), 50)
        self.assertTrue(any(value is not None and value > 3 for value in told))

    def test_would_in_rows(self):
        chance = random.Random(94)
        for raw in small_nets(95, 100, most_rooms=3, most_ties=4, most_axes=2):
            desk, model = Desk(make(raw)), Model(raw)
            deeds, wanted, later = [], [], model.copy()
            for serial in range(8):
                deed = some_deed(chance, later.nets[later.at], serial)
                if deed is not None:
                    deeds.append(list(deed) if chance.random() < 0.5 else deed)
                    wanted.append(later.do(deed))
            told = desk.would(deeds)
            self.assertEqual(told, wanted)
            self.assertTrue(all(type(value) is bool for value in told))
            self.assertEqual(desk.would(tuple(deeds)), wanted)
            self.check_whole(desk, model)
            self.assertEqual([do(desk, deed) for deed in deeds], wanted)
            self.check_whole(desk, later)


class TestSince(unittest.TestCase):
    def test_by_hand(self):
        desk = Desk(make(PAIR))
        self.assertIsNone(desk.since())
        self.assertIs(desk.tie("w", "b", "a", [-1]), True)
        self.assertEqual(desk.since(), 1)
        self.assertIs(desk.room("c"), True)
        self.assertIs(desk.move("a", [7]), True)
        self.assertEqual(desk.since(), 1)
        self.assertIs(desk.cut("s"), False)
        self.assertIsNone(desk.since())
        self.assertIs(desk.tie("x", "a", "b", (-5,)), False)
        self.assertIs(desk.tie("y", "c", "c", [0]), True)
        self.assertEqual(desk.since(), 6)
        self.assertIs(desk.undo(), True)
        self.assertIsNone(desk.since())
        self.assertIs(desk.undo(), True)
        self.assertIs(desk.undo(), True)
        self.assertEqual([desk.since(), desk.is_closed()], [1, True])
        self.assertIs(desk.again(), True)
        self.assertIs(desk.is_closed(), False)
        self.assertEqual([desk.again(), desk.again(), desk.again()], [True, True, False])
        self.assertEqual(desk.since(), 6)

    def test_from_the_first_on(self):
        desk = Desk(make(PAIR).more([("w", "b", "a", [-1])]))
        self.assertEqual(desk.since(), 0)
        self.assertIs(type(desk.since()), int)
        desk.room("c")
        self.assertEqual(desk.since(), 0)
        desk.cut("w")
        desk.tie("w", "b", "a", [-1])
        self.assertEqual(desk.since(), 3)
        desk.undo()
        desk.undo()
        self.assertEqual(desk.since(), 0)

    def test_what_is_taken_back_does_not_count(self):
        desk = Desk(make(PAIR))
        desk.room("c")
        desk.room("d")
        desk.undo()
        self.assertIs(desk.tie("w", "b", "a", [-1]), True)
        self.assertEqual(desk.since(), 2)


class TestUndo(unittest.TestCase):
    def test_there_is_none(self):
        desk = Desk(make(PAIR))
        self.assertEqual([desk.undo(), desk.again(), desk.undo()], [False, False, False])
        desk.room("c")
        self.assertEqual([desk.again(), desk.undo(), desk.undo(), desk.again(), desk.again()],
                         [False, True, False, True, False])
        self.assertEqual(desk.net().rooms(), ["a", "b", "c"])

    def test_a_new_deed_ends_what_can_be_done_again(self):
        desk = Desk(make(PAIR))
        desk.room("c")
        desk.room("d")
        self.assertIs(desk.undo(), True)
        desk.room("e")
        self.assertIs(desk.again(), False)
        self.assertEqual(desk.net().rooms(), ["a", "b", "c", "e"])
        self.assertEqual([desk.undo(), desk.undo(), desk.undo()], [True, True, False])
        self.assertEqual(desk.net(), make(PAIR))

    def test_what_raises_is_no_deed(self):
        for deed, error in list(wrong_deeds(Desk(make(PAIR)))):
            desk = Desk(make(PAIR))
            desk.room("c")
            desk.room("d")
            desk.undo()
            with self.assertRaises(NetError) as caught:
                do(desk, deed if deed != ("room", "b") else ("room", "c"))
            self.assertIs(type(caught.exception), error)
            self.assertEqual(desk.net().rooms(), ["a", "b", "c"])
            self.assertEqual(desk.net().ties(), make(PAIR).ties())
            self.assertEqual([desk.again(), desk.again()], [True, False])
            self.assertEqual(desk.net().rooms(), ["a", "b", "c", "d"])

    def test_asking_is_no_deed(self):
        desk = Desk(make(PAIR))
        desk.room("c")
        desk.undo()
        desk.would([("room", "d"), ("cut", "s")])
        desk.net(), desk.is_closed(), desk.since(), desk.copy(), desk.trial(lambda one: one.cut("t"))
        self.assertEqual([desk.again(), desk.net().rooms()], [True, ["a", "b", "c"]])


class TestErrors(unittest.TestCase):
    def setUp(self):
        self.desk = Desk(make(PAIR))

    def tearDown(self):
        self.assertEqual(self.desk.net(), make(PAIR))
        self.assertEqual([self.desk.undo(), self.desk.again()], [False, False])

    def test_room(self):
        for thing in any_objects() + ["b", "b ", "B", ["c"]]:
            if not (isinstance(thing, str) and thing in ("e", "zz", "a.0")):
                raises(self, BadRooms, [("words", thing)], lambda: self.desk.room(thing))

    def test_tie_without_a_name(self):
        for thing in any_objects() + ["B", "s t", ["s"]]:
            if not (isinstance(thing, str) and thing in ("a", "e", "zz", "a.0")):
                raises(self, BadTie, [("index", 0)], lambda: self.desk.tie(thing, "x", "y", None))

    def test_tie_that_is_taken(self):
        raises(self, TieTaken, [("name", "t")], lambda: self.desk.tie("t", "x", "y", None))
        raises(self, TieTaken, [("name", "s")], lambda: self.desk.tie("s", "a", "b", [1]))

    def test_tie_without_rooms(self):
        for thing in any_objects() + ["s", "A"]:
            if thing != "a":
                raises(self, NoRoom, [("name", thing)], lambda: self.desk.tie("z", thing, "y", None))
                raises(self, NoRoom, [("name", thing)], lambda: self.desk.tie("z", "b", thing, None))

    def test_tie_without_a_step(self):
        for thing in any_objects():
            if not (isinstance(thing, (list, tuple)) and len(thing) == 1 and type(thing[0]) is int):
                raises(self, BadPlace, [("thing", thing)], lambda: self.desk.tie("z", "b", "a", thing))

    def test_cut(self):
        for thing in any_objects() + ["a", "S", ["s"]]:
            raises(self, NoTie, [("name", thing)], lambda: self.desk.cut(thing))

    def test_move(self):
        for thing in any_objects() + ["s"]:
            if thing != "a":
                raises(self, NoRoom, [("name", thing)], lambda: self.desk.move(thing, None))
            if not (isinstance(thing, (list, tuple)) and len(thing) == 1 and type(thing[0]) is int):
                raises(self, BadPlace, [("thing", thing)], lambda: self.desk.move("a", thing))

    def test_by_name_in_another_order(self):
        raises(self, TieTaken, [("name", "t")], lambda: self.desk.tie(step=None, end="y", start="x", name="t"))
        raises(self, NoRoom, [("name", "x")], lambda: self.desk.tie(step=None, end="y", start="x", name="z"))
        raises(self, NoRoom, [("name", "x")], lambda: self.desk.move(place=None, room="x"))


class TestWould(unittest.TestCase):
    def setUp(self):
        self.desk = Desk(make(PAIR))
        self.desk.room("c")
        self.desk.room("d")
        self.desk.undo()

    def tearDown(self):
        self.assertEqual(self.desk.net(), make(PAIR) | Net(1, ["c"], []))
        self.assertEqual([self.desk.again(), self.desk.again(), self.desk.undo(), self.desk.undo(), self.desk.undo()],
                         [True, False, True, True, False])

    def test_by_hand(self):
        deeds = [("tie", "w", "b", "a", (-1,)), ["cut", "w"], ("room", "x"), ("move", "x", [4]), ("tie", "o", "x", "x", [0])]
        self.assertEqual(self.desk.would(deeds), [True, False, False, False, True])
        self.assertEqual(self.desk.would(deeds=tuple(deeds[:2])), [True, False])
        self.assertEqual([self.desk.would([]), self.desk.would(())], [[], []])
        told = self.desk.would(deeds)
        told.clear()
        self.assertEqual(self.desk.would(deeds[:1]), [True])

    def test_no_list(self):
        for thing in any_objects() + ["room", {"room": "x"}]:
            if not isinstance(thing, (list, tuple)):
                raises(self, BadDeed, [("index", 0)], lambda: self.desk.would(thing))

    def test_no_deeds(self):
        wrong = [("room",), ("room", "x", "y"), ("cut",), ("cut", "s", "t"), ("move", "a"), ("move", "a", [0], 1),
                 ("tie", "z", "a", "b"), ("tie", "z", "a", "b", [0], 0), ("Room", "x"), ("room ", "x"), ("undo",),
                 ("again",), ("net",), ("since",), (["room"], "x"), (None, "x"), (True, "x"), (0, "x"), ({}, "x"),
                 (("room",), "x"), "room", ("is_closed",), ("copy",), ("trial", None)]
        for thing in any_objects() + wrong:
            raises(self, BadDeed, [("index", 0)], lambda: self.desk.would([thing]))
            raises(self, BadDeed, [("index", 2)], lambda: self.desk.would([("cut", "s"), ["room", "x"], thing, None]))
            raises(self, BadDeed, [("index", 1)], lambda: self.desk.would((("cut", "none"), thing)))

    def test_deeds_that_can_not_be_done(self):
        right = [("cut", "s"), ("room", "x")]
        for things in any_objects():
            if things not in ("e", "zz", "a.0"):
                raises(self, BadRooms, [("words", things)], lambda: self.desk.would(right + [("room", things)]))
            raises(self, NoTie, [("name", things)], lambda: self.desk.would(right + [("cut", things), ("room", 1)]))
        raises(self, NoTie, [("name", "s")], lambda: self.desk.would(right + [("cut", "s"), ("room", "x")]))
        raises(self, BadRooms, [("words", "x")], lambda: self.desk.would(right + [("room", "x"), ("cut", "s")]))
        raises(self, BadTie, [("index", 0)], lambda: self.desk.would(right + [("tie", None, 1, 2, 3)]))
        raises(self, TieTaken, [("name", "t")], lambda: self.desk.would(right + [("tie", "t", 1, 2, 3)]))
        raises(self, NoRoom, [("name", 1)], lambda: self.desk.would(right + [("tie", "s", 1, 2, 3)]))
        raises(self, NoRoom, [("name", 2)], lambda: self.desk.would(right + [("tie", "s", "x", 2, 3)]))
        raises(self, BadPlace, [("thing", 3)], lambda: self.desk.would(right + [("tie", "s", "x", "a", 3)]))
        raises(self, NoRoom, [("name", "d")], lambda: self.desk.would(right + [("move", "d", None)]))
        raises(self, BadPlace, [("thing", "0")], lambda: self.desk.would(right + [("move", "x", "0")]))

    def test_deeds_stay_as_they_are(self):
        deeds = [["tie", "w", "b", "a", [-1]], ["move", "a", [3]]]
        self.desk.would(deeds)
        self.assertEqual(deeds, [["tie", "w", "b", "a", [-1]], ["move", "a", [3]]])


class TestCopy(unittest.TestCase):
    def test_neither_changes_the_other(self):
        desk = Desk(make(PAIR))
        desk.room("c")
        desk.room("d")
        desk.undo()
        other = desk.copy()
        self.assertIs(type(other), Desk)
        other.tie("w", "b", "a", [-1])
        self.assertEqual([desk.net().rooms(), len(desk.net()), desk.since()], [["a", "b", "c"], 2, None])
        self.assertEqual([desk.again(), desk.again(), other.again()], [True, False, False])
        self.assertEqual(desk.net().rooms(), ["a", "b", "c", "d"])
        self.assertEqual([other.net().rooms(), other.since()], [["a", "b", "c"], 2])
        desk.cut("s")
        self.assertIn("s", other.net())
        self.assertEqual([other.undo(), other.undo(), other.undo()], [True, True, False])
        self.assertEqual([desk.undo(), desk.undo(), desk.undo(), desk.undo()], [True, True, True, False])

    def test_is_as_the_desk_is(self):
        desk = Desk(make(PAIR))
        desk.room("c")
        desk.tie("w", "b", "a", [-1])
        desk.room("d")
        desk.undo()
        other = desk.copy()
        self.assertEqual([other.net(), other.since(), other.is_closed()], [desk.net(), 2, True])
        self.assertEqual([other.again(), other.again()], [True, False])
        self.assertEqual(other.net().rooms(), ["a", "b", "c", "d"])
        self.assertEqual([other.undo() for _ in range(4)], [True, True, True, False])
        self.assertEqual(desk.net().rooms(), ["a", "b", "c"])


class Stop(Exception):
    pass


class TestTrial(unittest.TestCase):
    def setUp(self):
        self.desk = Desk(make(PAIR))
        self.desk.room("c")
        self.desk.tie("w", "b", "a", [-1])
        self.desk.room("d")
        self.desk.undo()

    def check_desk(self):
        self.assertEqual(self.desk.net().rooms(), ["a", "b", "c"])
        self.assertEqual([tie[0] for tie in self.desk.net().ties()], ["s", "t", "w"])
        self.assertEqual([self.desk.is_closed(), self.desk.since()], [True, 2])

    def tearDown(self):
        self.check_desk()
        self.assertEqual([self.desk.again(), self.desk.again()], [True, False])
        self.assertEqual(self.desk.net().rooms(), ["a", "b", "c", "d"])
        self.assertEqual([self.desk.undo() for _ in range(4)], [True, True, True, False])
        self.assertEqual(self.desk.net(), make(PAIR))

    def test_returns_what_is_returned(self):
        told = [["any"], None]
        self.assertIs(self.desk.trial(lambda desk: told), told)
        self.assertIsNone(self.desk.trial(work=lambda desk: [desk.cut("w"), None][1]))
        self.assertIs(self.desk.trial(lambda desk: desk), self.desk)

    def test_is_done_on_the_desk_itself(self):
        def work(desk):
            self.assertIs(desk, self.desk)
            told = [desk.cut("w"), self.desk.net().ties(), desk.since()]
            self.check_called = True
            return told

        self.assertEqual(self.desk.trial(work), [False, make(PAIR).ties(), None])
        self.assertTrue(self.check_called)

    def test_an_error_goes_on(self):
        def work(desk):
            desk.cut("w")
            desk.undo()
            desk.undo()
            desk.room("new")
            raise error

        for error in (Stop("any"), NoTie("any"), KeyError("any"), RuntimeError("any")):
            with self.assertRaises(type(error)) as caught:
                self.desk.trial(work)
            self.assertIs(caught.exception, error)
            self.check_desk()

    def test_an_error_of_a_deed_goes_on(self):
        raises(self, NoTie, [("name", "none")], lambda: self.desk.trial(lambda desk: [desk.room("x"), desk.cut("none")]))

    def test_undo_and_again_within(self):
        def back(desk):
            return [desk.undo() for _ in range(4)] + [desk.net() == make(PAIR)]

        self.assertEqual(self.desk.trial(back), [True, True, False, False, True])
        self.check_desk()
        self.assertEqual(self.desk.trial(lambda desk: [desk.again(), desk.again()]), [True, False])
        self.check_desk()
        self.assertEqual(self.desk.trial(lambda desk: [desk.undo(), desk.room("e"), desk.again()]), [True, False, False])

    def test_a_trial_within(self):
        def outer(desk):
            desk.undo()
            desk.room("e")
            desk.room("f")
            desk.undo()
            before = desk.net()
            for error in (None, Stop()):
                def inner(one):
                    one.room("g")
                    one.undo()
                    one.undo()
                    one.cut("s")
                    if error:
                        raise error
                    return "inner"

                if error:
                    with self.assertRaises(Stop):
                        desk.trial(inner)
                else:
                    self.assertEqual(desk.trial(inner), "inner")
                self.assertEqual(desk.net(), before)
            self.assertEqual([desk.again(), desk.again()], [True, False])
            self.assertEqual(desk.net().rooms(), ["a", "b", "c", "e", "f"])
            return "outer"

        self.assertEqual(self.desk.trial(outer), "outer")

    def test_a_copy_that_is_told_stays(self):
        def work(desk):
            desk.cut("w")
            return desk.copy(), desk.net()

        other, net = self.desk.trial(work)
        self.assertEqual([other.net(), net.ties(), other.is_closed()], [net, make(PAIR).ties(), False])
        other.room("q")


class TestKinds(unittest.TestCase):
    def test_by_name_in_another_order(self):
        desk = Desk(net=make(PAIR))
        self.assertIs(desk.room(name="c"), False)
        self.assertIs(desk.tie(step=(-1,), end="a", start="b", name="w"), True)
        self.assertIs(desk.move(place=(5,), room="a"), True)
        self.assertIs(desk.cut(name="s"), False)
        self.assertEqual(desk.would(deeds=[["room", "d"]]), [False])
        self.assertEqual(desk.net(), Net(1, ["a", "b", "c"], [("t", "b", "a", [5]), ("w", "b", "a", [4])]))

    def test_nets_stay_as_they_are(self):
        net = make(PAIR)
        desk = Desk(net)
        first = desk.net()
        self.assertEqual(first, net)
        desk.cut("s")
        second = desk.net()
        desk.room("c")
        desk.move("a", [1])
        desk.undo()
        self.assertEqual([net, first], [make(PAIR), make(PAIR)])
        self.assertEqual(second, make(PAIR).without(["s"]))
        self.assertIs(type(desk.net()), Net)

    def test_steps_are_copied(self):
        desk = Desk(make(PAIR))
        step = [-1]
        desk.tie("w", "b", "a", step)
        step[0] = 100
        step.append(1)
        self.assertEqual(desk.net().tie("w"), ("w", "b", "a", (-1,)))
        place = [3]
        desk.move("b", place)
        place.clear()
        self.assertEqual(desk.net().ties(), [("s", "a", "b", (4,)), ("t", "b", "a", (-3,)), ("w", "b", "a", (-4,))])

    def test_no_axes_and_four(self):
        desk = Desk(Net(0, ["a"], []))
        self.assertEqual([desk.is_closed(), desk.since()], [False, None])
        self.assertIs(desk.tie("o", "a", "a", []), True)
        self.assertIs(desk.move("a", ()), True)
        self.assertEqual(desk.since(), 1)
        desk = Desk(Net(4, ["a", "b"], [("s", "a", "b", [0, 0, 0, 1])]))
        self.assertIs(desk.move("b", [10 ** 30, 0, 0, -1]), False)
        self.assertEqual(desk.net().tie("s"), ("s", "a", "b", (10 ** 30, 0, 0, 0)))
        self.assertIs(desk.tie("t", "b", "a", [-10 ** 30, 0, 0, 0]), True)


if __name__ == "__main__":
    unittest.main()

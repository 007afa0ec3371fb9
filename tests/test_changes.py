"""Points [3] and [17] to [19]: nets made otherwise, and nets that are alike but for shifted rooms."""

import itertools
import random
import unittest

from helpers import any_objects, is_plain_int, leads, make, raises, small_nets
from repeatnets.changes import alike, bent, flat, shifted, turned, wider
from repeatnets.errors import BadMatrix, BadNumber, BadPlace, NoAxis, NoRoom
from repeatnets.levels import levels_of
from repeatnets.nets import Net
from repeatnets.sums import closes

RAW = (2, ["a", "b"], [("e", "a", "b", [3, -2]), ("f", "b", "a", [0, 5]), ("g", "b", "b", [-7, 1])])


def turned_by_hand(raw, matrix):
    axes, rooms, ties = raw
    rows = []
    for name, start, end, step in ties:
        rows.append((name, start, end, tuple(sum(matrix[i][j] * step[j] for j in range(axes)) for i in range(axes))))
    return axes, rooms, rows


def flat_by_hand(raw, axis):
    axes, rooms, ties = raw
    return axes - 1, rooms, [(name, start, end, tuple(step[i] for i in range(axes) if i != axis))
                             for name, start, end, step in ties]


def shifted_by_hand(raw, room, place):
    axes, rooms, ties = raw
    rows = []
    for name, start, end, step in ties:
        step = list(step)
        for axis in range(axes):
            if end == room:
                step[axis] += place[axis]
            if start == room:
                step[axis] -= place[axis]
        rows.append((name, start, end, tuple(step)))
    return axes, rooms, rows


def wider_by_hand(raw, axis, size):
    """By the words of [18], with the quotient looked for: the greatest one whose product is not above the number."""
    axes, rooms, ties = raw
    rows = []
    for name, start, end, step in ties:
        for c in range(size):
            number = c + step[axis]
            quotient = 0
            while quotient * size > number:
                quotient -= 1
            while (quotient + 1) * size <= number:
                quotient += 1
            wide = list(step)
            wide[axis] = quotient
            rows.append(("%s.%d" % (name, c), "%s.%d" % (start, c), "%s.%d" % (end, number - quotient * size),
                         tuple(wide)))
    return axes, ["%s.%d" % (room, c) for room in rooms for c in range(size)], rows


def determinant(matrix):
    """By the sum over all orders."""
    total = 0
    for order in itertools.permutations(range(len(matrix))):
        sign = 1
        for one, other in itertools.combinations(order, 2):
            sign *= -1 if one > other else 1
        for row, column in enumerate(order):
            sign *= matrix[row][column]
        total += sign
    return total


class ByRows(unittest.TestCase):
    def check(self, net, raw):
        self.assertIs(type(net), Net)
        self.assertIs(type(net.axes), int)
        self.assertEqual((net.axes, net.rooms(), net.ties()), raw)
        for tie in net.ties():
            self.assertEqual([type(tie), type(tie[3])], [tuple, tuple])
            self.assertTrue(all(is_plain_int(number) for number in tie[3]))


class TestTurned(ByRows):
    def test_rows(self):
        self.check(turned(make(RAW), [[0, -1], [1, 0]]),
                   (2, ["a", "b"], [("e", "a", "b", (2, 3)), ("f", "b", "a", (-5, 0)), ("g", "b", "b", (-1, -7))]))
        self.check(turned(make(RAW), [[2, 5], [1, 3]]),
                   (2, ["a", "b"], [("e", "a", "b", (-4, -3)), ("f", "b", "a", (25, 15)), ("g", "b", "b", (-9, -4))]))
        self.check(turned(Net(1, ["a"], [("t", "a", "a", [4])]), [[-999]]), (1, ["a"], [("t", "a", "a", (-3996,))]))

    def test_no_axes(self):
        net = Net(0, ["a"], [("t", "a", "a", [])])
        self.check(turned(net, []), (0, ["a"], [("t", "a", "a", ())]))
        self.check(turned(net, ()), (0, ["a"], [("t", "a", "a", ())]))
        for matrix in ([[]], [[1]], {}, "", None, 0):
            raises(self, BadMatrix, [("matrix", matrix)], lambda: turned(net, matrix))

    def test_all_matrices(self):
        chance = random.Random(17)
        nought = 0
        for at in range(600):
            axes = at % 5
            reach = (1, 2, 999)[at % 3]
            matrix = [[chance.randint(-reach, reach) for _ in range(axes)] for _ in range(axes)]
            if axes > 1 and at % 4 == 0:
                matrix[-1] = [sum(column) for column in zip(*matrix[:-1])]
            raw = (axes, ["a", "b"], [("t%d" % k, "ab"[k % 2], "ab"[k // 2], [chance.randint(-9, 9) for _ in range(axes)])
                                      for k in range(4)])
            if determinant(matrix) == 0:
                nought += 1
                raises(self, BadMatrix, [("matrix", matrix)], lambda: turned(make(raw), matrix))
            else:
                self.check(turned(make(raw), matrix), turned_by_hand(raw, matrix))
        self.assertGreater(nought, 150)

    def test_determinant_nought(self):
        for matrix in ([[0]], [[0, 0], [0, 1]], [[1, 2], [2, 4]], [[1, 2, 3], [4, 5, 6], [7, 8, 9]],
                       [[1, 0, 0, 1], [0, 1, 0, 1], [0, 0, 1, 1], [1, 1, 1, 3]]):
            net = Net(len(matrix), ["a"], [])
            raises(self, BadMatrix, [("matrix", matrix)], lambda: turned(net, matrix))
        self.assertEqual(turned(Net(3, ["a"], []), [[0, 0, 1], [0, 1, 0], [1, 0, 0]]), Net(3, ["a"], []))

    def test_bad_matrix(self):
        net = make(RAW)
        good = [[[1, 0], [0, 1]]]
        for thing in any_objects() + [[[1, 0], [0, True]], [[1, 0], [0, 1], [0, 0]], [[1, 0, 0], [0, 1, 0]], [[1, 0], "ab"],
                                      [[1, 0], [0, "1"]], [[1, 0], {0: 1, 1: 1}], [[1, 0], [0, 1.0]], ["ab", "cd"]]:
            if thing not in good:
                raises(self, BadMatrix, [("matrix", thing)], lambda: turned(net, thing))

    def test_lists_tuples_and_names(self):
        told = turned(make(RAW), [[0, -1], [1, 0]])
        self.assertEqual(turned(net=make(RAW), matrix=((0, -1), (1, 0))), told)
        self.assertEqual(turned(make(RAW), ([0, -1], (1, 0))), told)

    def test_arguments_stay(self):
        net, matrix = make(RAW), [[0, -1], [1, 0]]
        told = turned(net, matrix)
        self.assertEqual([net, matrix], [make(RAW), [[0, -1], [1, 0]]])
        matrix[0][0] = 5
        self.assertEqual(told, turned(make(RAW), [[0, -1], [1, 0]]))


class TestFlat(ByRows):
    def test_rows(self):
        raw = (3, ["z", "b"], [("e", "z", "b", [1, 2, 3]), ("d", "b", "b", [4, 5, 6])])
        self.check(flat(make(raw), 0), (2, ["z", "b"], [("e", "z", "b", (2, 3)), ("d", "b", "b", (5, 6))]))
        self.check(flat(make(raw), 1), (2, ["z", "b"], [("e", "z", "b", (1, 3)), ("d", "b", "b", (4, 6))]))
        self.check(flat(net=make(raw), axis=2), (2, ["z", "b"], [("e", "z", "b", (1, 2)), ("d", "b", "b", (4, 5))]))

    def test_all_axes(self):
        for raw in small_nets(18, 60, most_axes=4, reach=9):
            for axis in range(raw[0]):
                self.check(flat(make(raw), axis), flat_by_hand(raw, axis))

    def test_no_axis(self):
        for axes in range(5):
            net = Net(axes, ["a"], [("t", "a", "a", [0] * axes)])
            for thing in any_objects() + [axes, axes + 1, -axes, "0", 0.0]:
                if not is_plain_int(thing) or not 0 <= thing < axes:
                    for call in (flat, lambda net, thing: wider(net, thing, 1), lambda net, thing: bent(net, thing, 1)):
                        raises(self, NoAxis, [("axis", thing)], lambda: call(net, thing))


class TestShifted(ByRows):
    def test_rows(self):
        raw = (2, ["a", "b"], [("e", "a", "b", [3, -2]), ("f", "b", "a", [0, 5]), ("g", "b", "b", [-7, 1])])
        self.check(shifted(make(raw), "b", [10, 20]),
                   (2, ["a", "b"], [("e", "a", "b", (13, 18)), ("f", "b", "a", (-10, -15)), ("g", "b", "b", (-7, 1))]))
        self.check(shifted(net=make(raw), room="a", place=(1, 0)),
                   (2, ["a", "b"], [("e", "a", "b", (2, -2)), ("f", "b", "a", (1, 5)), ("g", "b", "b", (-7, 1))]))
        self.check(shifted(Net(0, ["a"], [("t", "a", "a", [])]), "a", []), (0, ["a"], [("t", "a", "a", ())]))

    def test_all_rooms(self):
        chance = random.Random(3)
        for raw in small_nets(19, 80, most_axes=4, reach=9):
            for room in raw[1]:
                place = [chance.randint(-10 ** 15 + 1, 10 ** 15 - 1) for _ in range(raw[0])]
                self.check(shifted(make(raw), room, place), shifted_by_hand(raw, room, place))

    def test_errors(self):
        net = make(RAW)
        for thing in any_objects():
            if thing not in ("a",):
                raises(self, NoRoom, [("name", thing)], lambda: shifted(net, thing, [0, 0]))
                raises(self, NoRoom, [("name", thing)], lambda: shifted(net, thing, None))
            if not isinstance(thing, (list, tuple)) or len(thing) != 2 or not all(map(is_plain_int, thing)):
                raises(self, BadPlace, [("thing", thing)], lambda: shifted(net, "a", thing))
        for thing in ([0], [0, 0, 0], [0, False], "00", [0, "0"], {0: 0, 1: 0}):
            raises(self, BadPlace, [("thing", thing)], lambda: shifted(net, "b", thing))


class TestWider(ByRows):
    def test_rows(self):
        raw = (2, ["a", "b"], [("t", "a", "b", [-3, 9]), ("s", "b", "b", [1, 0])])
        self.check(wider(make(raw), 0, 2), (2, ["a.0", "a.1", "b.0", "b.1"], [
            ("t.0", "a.0", "b.1", (-2, 9)), ("t.1", "a.1", "b.0", (-1, 9)),
            ("s.0", "b.0", "b.1", (0, 0)), ("s.1", "b.1", "b.0", (1, 0))]))
        self.check(wider(net=make(raw), axis=1, size=3), (2, ["a.0", "a.1", "a.2", "b.0", "b.1", "b.2"], [
            ("t.0", "a.0", "b.0", (-3, 3)), ("t.1", "a.1", "b.1", (-3, 3)), ("t.2", "a.2", "b.2", (-3, 3)),
            ("s.0", "b.0", "b.0", (1, 0)), ("s.1", "b.1", "b.1", (1, 0)), ("s.2", "b.2", "b.2", (1, 0))]))
        self.check(bent(make(raw), 0, 2), (1, ["a.0", "a.1", "b.0", "b.1"], [
            ("t.0", "a.0", "b.1", (9,)), ("t.1", "a.1", "b.0", (9,)),
            ("s.0", "b.0", "b.1", (0,)), ("s.1", "b.1", "b.0", (0,))]))
        self.check(bent(net=make(raw), axis=1, size=1), (1, ["a.0", "b.0"], [
            ("t.0", "a.0", "b.0", (-3,)), ("s.0", "b.0", "b.0", (1,))]))

    def test_quotients_are_rounded_down(self):
        for step, size, told in ((-1, 40, [-1] + [0] * 39), (-40, 40, [-1] * 40), (-41, 40, [-2] + [-1] * 39),
                                 (39, 40, [0] + [1] * 39), (-1, 1, [-1]), (7, 1, [7])):
            net = Net(1, ["a"], [("t", "a", "a", [step])])
            self.assertEqual([tie[3][0] for tie in wider(net, 0, size).ties()], told)

    def test_all_sizes(self):
        for at, raw in enumerate(small_nets(20, 60, most_axes=4, reach=50)):
            for axis in range(raw[0]):
                for size in (1, 2, 3, 7, 40)[:3 + at % 3]:
                    told = wider_by_hand(raw, axis, size)
                    self.check(wider(make(raw), axis, size), told)
                    self.check(bent(make(raw), axis, size), flat_by_hand(told, axis))

    def test_far_steps(self):
        far = 10 ** 15 - 1
        told = wider(Net(1, ["a"], [("t", "a", "a", [-far]), ("s", "a", "a", [far])]), 0, 40)
        for at in range(40):
            for tie, step in ((told.tie("t.%d" % at), -far), (told.tie("s.%d" % at), far)):
                self.assertEqual(tie[3][0] * 40 + int(tie[2][2:]) - at, step)

    def test_names_with_dots_stay_unlike(self):
        raw = (1, ["a", "a.0", "a.0.0"], [("t", "a", "a.0", [1]), ("t.1", "a.0", "a.0.0", [2])])
        self.check(wider(make(raw), 0, 3), wider_by_hand(raw, 0, 3))

    def test_bad_number(self):
        net = make(RAW)
        for thing in any_objects() + [0, 41, 42, 10 ** 9, "1", 1.0]:
            if not is_plain_int(thing) or not 1 <= thing <= 40:
                raises(self, BadNumber, [("number", thing)], lambda: wider(net, 1, thing))
                raises(self, BadNumber, [("number", thing)], lambda: bent(net, 1, thing))
                raises(self, NoAxis, [("axis", 2)], lambda: wider(net, 2, thing))
                raises(self, NoAxis, [("axis", None)], lambda: bent(net, None, thing))


class TestFacts(unittest.TestCase):
    def test_changed_nets_close_just_if_the_net_does(self):
        chance = random.Random(23)
        closing = 0
        for at, raw in enumerate(small_nets(24, 250, most_rooms=4, most_ties=7, most_axes=3, reach=2)):
            net = make(raw)
            told = closes(net)
            closing += told
            matrix = [[0] * raw[0] for _ in range(raw[0])]
            while determinant(matrix) == 0:
                matrix = [[chance.randint(-3, 3) for _ in range(raw[0])] for _ in range(raw[0])]
            room = chance.choice(raw[1])
            changed = [~net, turned(net, matrix), shifted(net, room, [chance.randint(-9, 9) for _ in range(raw[0])])]
            for axis in range(raw[0]):
                changed.append(wider(net, axis, chance.randint(1, 6)))
                bare = closes(flat(net, axis))
                for size in (1, 2, 5):
                    self.assertIs(closes(bent(net, axis, size)), bare)
            for other in changed:
                self.assertIs(closes(other), told)
                self.assertEqual(levels_of(other) is None, told)
        self.assertGreater(closing, 40)

    def test_wide_and_bent_by_forty(self):
        for steps, told, bare in (([[7, 1], [-3, -1], [-1, 0]], True, True), ([[7, 1], [-3, 0], [-1, 1]], False, True),
                                  ([[1, 1], [2, -2], [1, 3]], False, False)):
            net = Net(2, ["a"], [("t%d" % at, "a", "a", step) for at, step in enumerate(steps)])
            self.assertIs(closes(wider(net, 0, 40)), told)
            self.assertIs(closes(wider(net, 1, 40)), told)
            self.assertIs(closes(bent(net, 0, 40)), closes(flat(net, 0)))
            self.assertIs(closes(bent(net, 1, 40)), bare)

    def test_a_wide_net_bent_again(self):
        net = make(RAW)
        self.assertEqual(flat(bent(net, 0, 3), 0).axes, 0)
        self.assertEqual(wider(wider(net, 0, 2), 1, 2).rooms()[:5], ["a.0.0", "a.0.1", "a.1.0", "a.1.1", "b.0.0"])


def hung_together(rooms, ties):
    """The lists of rooms that hang together by ties, gone either way."""
    both = ties + [(name, end, start, step) for name, start, end, step in ties]
    groups, placed = [], set()
    for room in rooms:
        if room not in placed:
            groups.append([other for other in rooms if other in leads(both, room)])
            placed |= set(groups[-1])
    return groups


class TestAlike(unittest.TestCase):
    def check(self, told, wanted):
        self.assertEqual(told, wanted)
        self.assertIs(type(told), dict)
        for place in told.values():
            self.assertIs(type(place), tuple)
            self.assertTrue(all(is_plain_int(number) for number in place))

    def test_one_shift(self):
        net = make(RAW)
        self.check(alike(net, net), {"a": (0, 0), "b": (0, 0)})
        self.check(alike(net, shifted(net, "b", [4, -1])), {"a": (0, 0), "b": (4, -1)})
        self.check(alike(one=net, other=shifted(net, "a", [4, -1])), {"a": (0, 0), "b": (-4, 1)})
        self.check(alike(shifted(net, "b", [4, -1]), net), {"a": (0, 0), "b": (-4, 1)})

    def test_rooms_that_hang_together_by_no_tie(self):
        rooms = ["a", "b", "c", "d", "e"]
        net = Net(1, rooms, [("s", "d", "b", [1]), ("t", "c", "a", [2]), ("u", "a", "a", [7])])
        other = net
        for room, place in (("a", [5]), ("b", [6]), ("c", [10]), ("d", [-1]), ("e", [99])):
            other = shifted(other, room, place)
        self.check(alike(net, other), {"a": (0,), "b": (0,), "c": (5,), "d": (-7,), "e": (0,)})

    def test_shifts_put_in(self):
        chance = random.Random(29)
        for raw in small_nets(30, 200, most_rooms=6, most_ties=8, most_axes=4, reach=5):
            net = make(raw)
            shifts = {room: [chance.randint(-10 ** 15, 10 ** 15) for _ in range(raw[0])] for room in raw[1]}
            other = net
            for room in raw[1]:
                other = shifted(other, room, shifts[room])
            wanted = {}
            for group in hung_together(raw[1], raw[2]):
                for room in group:
                    wanted[room] = tuple(one - less for one, less in zip(shifts[room], shifts[group[0]]))
            self.check(alike(net, other), wanted)

    def test_what_is_told_holds_or_nothing_does(self):
        chance = random.Random(31)
        told = 0
        for raw in small_nets(32, 400, most_rooms=3, most_ties=3, most_axes=1):
            other = [(name, start, end, [chance.randint(-1, 1) for _ in step]) for name, start, end, step in raw[2]]
            found = alike(make(raw), Net(raw[0], raw[1], other))
            reach = [list(itertools.product(range(-6, 7), repeat=raw[0])) for _ in raw[1]]
            right = [places for places in itertools.product(*reach)
                     if all(tuple(new[3]) == tuple(old + there - here for old, there, here in zip(
                         tie[3], places[raw[1].index(tie[2])], places[raw[1].index(tie[1])]))
                         for tie, new in zip(raw[2], other))
                     and all(not any(places[raw[1].index(group[0])]) for group in hung_together(raw[1], raw[2]))]
            self.assertLessEqual(len(right), 1 if len(hung_together(raw[1], raw[2])) else 0)
            self.assertEqual(found, dict(zip(raw[1], right[0])) if right else None)
            told += bool(right)
        self.assertGreater(told, 100)

    def test_none_for_other_nets(self):
        net = make(RAW)
        ring = Net(1, ["a", "b"], [("s", "a", "b", [1]), ("t", "b", "a", [1])])
        for one, other in (
                (ring, Net(1, ["a", "b"], [("s", "a", "b", [1]), ("t", "b", "a", [2])])),
                (Net(1, ["a"], [("s", "a", "a", [1])]), Net(1, ["a"], [("s", "a", "a", [2])])),
                (ring, ring.without(["t"])), (ring.without(["t"]), ring),
                (ring, ring.more([("u", "a", "a", [0])])),
                (ring, Net(1, ["a", "b"], list(reversed(ring.ties())))),
                (ring, Net(1, ["b", "a"], ring.ties())),
                (ring, Net(1, ["a", "b", "c"], ring.ties())),
                (ring, Net(1, ["a", "b"], [("s", "a", "b", [1]), ("u", "b", "a", [1])])),
                (ring, Net(1, ["a", "b"], [("s", "b", "a", [1]), ("t", "b", "a", [1])])),
                (ring, ~ring), (net, flat(net, 0)), (Net(0, ["a"], []), Net(1, ["a"], []))):
            self.assertIsNone(alike(one, other))

    def test_new_each_time(self):
        net = Net(0, ["a", "b"], [])
        self.check(alike(net, net), {"a": (), "b": ()})
        alike(net, net).clear()
        self.check(alike(net, net), {"a": (), "b": ()})
        self.assertEqual(list(alike(net, net)), ["a", "b"])


if __name__ == "__main__":
    unittest.main()

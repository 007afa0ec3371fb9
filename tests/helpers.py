"""What the tests share: checks by the sums that the document writes out, apart from the package's own ones.

Nets are told here as raw triples (axes, rooms, ties); nothing but classes is imported from the package.
"""

import itertools
import random

from repeatnets.desks import Desk
from repeatnets.errors import BadAxes
from repeatnets.nets import Net
from repeatnets.turns import Turns


def any_objects():
    """Objects of all kinds, new ones each time."""
    return [
        0, 1, -1, 2, 5, 10 ** 40, True, False, None, "", "a", "e", "zz", "A", "a b", "a.0", "\u00e9", [], (), {},
        [[]], [()], [None], [[None, [True]]], ["e"], ("e",), [["e"]], [1], [1, 2], (0, 0), ["a", "a"], [True], ["a", 1],
        {"e": 1}, {"a": []}, {1: 2}, {("a",): None}, [{"e": 1}], ("e", "a", "a", [0]),
        [(["a"], [1], [0], [])], [([], [], [], [])], Net(0, ["a"], []), [Net(1, ["a"], [("e", "a", "a", [1])])],
        BadAxes(1), 40, 41, -7, (1,), [0], [-1], [0, 1], [1, 0], [1, -1], [True, False], [[1, 0], [0, 1]], [[True]],
        [[1], [2]], (0, 1, 0), [(0, 1, 0), (1, 1, 0)], [((0, 1, 0), (1, 1, 0))], (("a", ()), ["e"]), (("a", (0,)), ["e"]),
        [((0, 0), (0, 1, 0))], ((1,), []), Turns(1, 1, []), [Turns(2, 1, [((0, 1, 0), (1, -1, 0))])],
        Desk(Net(0, ["a"], [])), [("cut", "e")], "net 0\nroom a", ((0, 1), []), ((0, 1), [(1, [0], [0])]),
    ]


def make(raw):
    axes, rooms, ties = raw
    return Net(axes, rooms, ties)


def steps_sum(axes, ties, counts):
    return [sum(counts[tie[0]] * tie[3][axis] for tie in ties if tie[0] in counts) for axis in range(axes)]


def leads(ties, start):
    """All rooms to which ties lead from a room, itself among them."""
    found = {start}
    while True:
        more = {tie[2] for tie in ties if tie[1] in found} - found
        if not more:
            return found
        found |= more


def hangs(ties):
    """Whether from the end of each tie they lead to the start of each other one."""
    return all(other[1] in leads(ties, tie[2]) for tie in ties for other in ties if other is not tie)


def is_plain_int(number):
    return type(number) is int


def sum_holds(raw, counts):
    """Whether counts are a balanced sum, by [10]."""
    axes, rooms, ties = raw
    named = {tie[0]: tie for tie in ties}
    if type(counts) is not dict or not counts:
        return False
    if not all(name in named and is_plain_int(counts[name]) and counts[name] >= 1 for name in counts):
        return False
    for room in rooms:
        out = sum(counts[name] for name in counts if named[name][1] == room)
        back = sum(counts[name] for name in counts if named[name][2] == room)
        if out != back:
            return False
    return steps_sum(axes, ties, counts) == [0] * axes


def round_holds(raw, counts):
    """Whether counts are a round, by [10]."""
    return sum_holds(raw, counts) and hangs([tie for tie in raw[2] if tie[0] in counts])


def way_holds(raw, names):
    """Whether names are a closed way, by [9]: gone tie by tie."""
    axes, _, ties = raw
    named = {tie[0]: tie for tie in ties}
    if type(names) is not list or not names or any(name not in named for name in names):
        return False
    room, place = named[names[0]][1], [0] * axes
    for name in names:
        _, start, end, step = named[name]
        if start != room:
            return False
        room, place = end, [one + other for one, other in zip(place, step)]
    return room == named[names[0]][1] and place == [0] * axes


def parts_by_hand(rooms, ties):
    """The parts of ties, by [13], as pairs of rooms and ties."""
    found, placed = [], set()
    for room in rooms:
        group = [other for other in rooms if other in leads(ties, room) and room in leads(ties, other)]
        inner = [tie for tie in ties if tie[1] in group and tie[2] in group]
        if room not in placed and inner:
            found.append((group, inner))
        placed |= set(group)
    return found


def rises_by_hand(rooms, ties, direction, heights):
    height = dict(zip(rooms, heights))
    return [sum(one * other for one, other in zip(direction, tie[3])) + height[tie[2]] - height[tie[1]]
            for tie in ties]


def levels_hold(axes, rooms, ties, levels):
    """Whether levels of the very kinds that are told are levels of ties, by [13]."""
    parts = parts_by_hand(rooms, ties)
    if type(levels) is not list or len(levels) != len(parts):
        return False
    for (group, inner), level in zip(parts, levels):
        if type(level) is not tuple or len(level) != 4:
            return False
        if any(type(told) is not list for told in level) or level[0] != group:
            return False
        if len(level[1]) != axes or len(level[2]) != len(group):
            return False
        if not all(is_plain_int(number) for number in level[1] + level[2]):
            return False
        rises = rises_by_hand(group, inner, level[1], level[2])
        if min(rises) < 0 or max(rises) < 1:
            return False
        if not levels_hold(axes, group, [tie for tie, rise in zip(inner, rises) if rise == 0], level[3]):
            return False
    return True


def depth_of_levels(levels):
    return max((1 + depth_of_levels(level[3]) for level in levels), default=0)


def sums_by_search(raw, most):
    """All balanced sums with counts up to most, by trying all."""
    axes, rooms, ties = raw
    for counts in itertools.product(range(most + 1), repeat=len(ties)):
        told = {tie[0]: count for tie, count in zip(ties, counts) if count}
        if sum_holds(raw, told):
            yield told


def ways_by_search(raw, most):
    """A shortest closed way with at most so many ties, by going all ways, else None."""
    axes, rooms, ties = raw
    level = [(tie[1], tie[2], tuple(tie[3]), [tie[0]]) for tie in ties]
    for _ in range(most):
        for start, end, place, names in level:
            if start == end and not any(place):
                return names
        seen, ahead = set(), []
        for start, end, place, names in level:
            for tie in ties:
                if tie[1] == end:
                    key = (start, tie[2], tuple(one + other for one, other in zip(place, tie[3])))
                    if key not in seen:
                        seen.add(key)
                        ahead.append(key + (names + [tie[0]],))
        level = ahead
    return None


def small_nets(seed, many, most_rooms=3, most_ties=4, most_axes=2, reach=1):
    """Small nets of all kinds, the same ones each time."""
    chance = random.Random(seed)
    for _ in range(many):
        axes = chance.randint(0, most_axes)
        rooms = ["r%d" % at for at in range(chance.randint(1, most_rooms))]
        ties = [("t.%d" % at, chance.choice(rooms), chance.choice(rooms),
                 [chance.randint(-reach, reach) for _ in range(axes)])
                for at in range(chance.randint(0, most_ties))]
        yield axes, rooms, ties


def raises(test, error, told, call):
    """Check that a call raises this very error, which holds what is told: pairs of names and objects."""
    with test.assertRaises(error) as caught:
        call()
    test.assertIs(type(caught.exception), error)
    for name, thing in told:
        held = getattr(caught.exception, name)
        if is_plain_int(thing) or isinstance(thing, str):
            test.assertEqual(type(held), type(thing))
            test.assertEqual(held, thing)
        else:
            test.assertIs(held, thing)

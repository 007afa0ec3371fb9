"""Boxes of the grid: ways within them, and the least ones in which a way comes back."""

from repeatnets.checks import ask_axis, ask_cells, ask_sizes
from repeatnets.halls import Box, lies_in
from repeatnets.kinds import are_whole, is_list
from repeatnets.nets import Net
from repeatnets.sums import closes


def box_way(net, sizes):
    """A closed way in the box with the fewest ties, as a pair of a hall and names, None if there is none."""
    ask_sizes(net.axes, sizes)
    return Box(net, sizes).shortest()


def is_box_way(net, sizes, thing):
    """Whether a thing is a pair of a hall and the names of a closed way in the box from this hall."""
    ask_sizes(net.axes, sizes)
    if not is_list(thing) or len(thing) != 2:
        return False
    hall, names = thing
    if not is_list(names) or len(names) == 0 or not all([name in net for name in names]):
        return False
    if not is_list(hall) or len(hall) != 2 or not are_whole(hall[1], net.axes) or not lies_in(sizes, hall[1]):
        return False
    room, place = hall[0], list(hall[1])
    for name in names:
        _, start, end, step = net.tie(name)
        place = [number + more for number, more in zip(place, step)]
        if start != room or not lies_in(sizes, place):
            return False
        room = end
    return room == hall[0] and place == list(hall[1])


def longest_way(net, sizes):
    """The number of ties of a longest way in the box, None if a way comes back."""
    ask_sizes(net.axes, sizes)
    return Box(net, sizes).longest()


def boxed(net, axis, size):
    """The net whose rooms are the rows of so many rooms along an axis."""
    ask_axis(net, axis)
    ask_cells(size)
    return rows_along(net, axis, size)


def rows_along(net, axis, size):
    """What boxed tells, of any size."""
    rooms = [f"{room}.{at}" for room in net.rooms() for at in range(size)]
    ties = []
    for name, start, end, step in net.ties():
        for at in range(max(0, -step[axis]), min(size, size - step[axis])):
            ties.append((f"{name}.{at}", f"{start}.{at}", f"{end}.{at + step[axis]}", step[:axis] + step[axis + 1:]))
    return Net(net.axes - 1, rooms, ties)


def least_boxes(net):
    """The list of all least sizes in whose box there is a closed way, ascending."""
    return sorted(Search(net).least())


class Search:
    """A search for the least sizes of a net. BOUNDS are sizes, or None for an axis without an end.

    What is boxed along some axes closes exactly if some box that is as great there, however great along the others,
    has a closed way. So one question is enough for all boxes within some bounds.
    """

    def __init__(self, net):
        self.source = net
        self.without_way = []

    def least(self):
        """All least sizes: one is sought within some bounds, until no bounds are left that hold one more."""
        found = []
        left = [tuple([None for _ in range(self.source.axes)])]
        while left:
            bounds = left.pop()
            if self.has_way(bounds):
                sizes = self.lessened(bounds)
                found.append(sizes)
                left = [less for one in left + [bounds] for less in bounds_without(one, sizes)]
        return found

    def has_way(self, bounds):
        """Whether some box within the bounds has a closed way."""
        if any([are_within(bounds, other) for other in self.without_way]):
            return False
        told = closes_within(self.source, bounds)
        if not told:
            self.without_way.append(bounds)
        return told

    def lessened(self, bounds):
        """Least sizes within bounds that have some: the least number for one axis after another."""
        for axis in range(self.source.axes):
            number = bounds[axis]
            if number is None:
                number = 1
                while not self.has_way(with_number(bounds, axis, number)):
                    number += 1
            else:
                while number > 1 and self.has_way(with_number(bounds, axis, number - 1)):
                    number -= 1
            bounds = with_number(bounds, axis, number)
        return bounds


def closes_within(net, bounds):
    """Whether some box of the net within the bounds has a closed way."""
    if None not in bounds:
        return Box(net, bounds).longest() is None
    rows = net
    for axis in reversed(range(len(bounds))):
        if bounds[axis] is not None:
            rows = rows_along(rows, axis, bounds[axis])
    return closes(rows)


def with_number(bounds, axis, number):
    """The bounds with this number at an axis."""
    return bounds[:axis] + (number,) + bounds[axis + 1:]


def are_within(bounds, other):
    """Whether all boxes within the bounds are within the other ones, too."""
    return all([wide is None or (number is not None and number <= wide) for number, wide in zip(bounds, other)])


def bounds_without(bounds, sizes):
    """The greatest bounds within some bounds that leave out all boxes in which that of these sizes lies."""
    if not are_within(sizes, bounds):
        return [bounds]
    return [with_number(bounds, axis, size - 1) for axis, size in enumerate(sizes) if size > 1]

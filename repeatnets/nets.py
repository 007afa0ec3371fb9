"""Nets: axes, rooms, and ties that lead from a room to a room so many steps away."""

from repeatnets.errors import BadAxes, BadRooms, BadTie, NoTie, TieTaken, UnlikeAxes
from repeatnets.kinds import are_whole, is_between, is_key, is_list, is_name

MOST_AXES = 4


def are_rooms(thing):
    """Whether a thing is a list of one or more unlike names."""
    if not is_list(thing) or len(thing) == 0 or not all([is_name(word) for word in thing]):
        return False
    return len({word: True for word in thing}) == len(thing)


def is_tie(axes, rooms, thing):
    """Whether a thing is a tie between rooms, keys of a dict, whatever names other ties have."""
    if not is_list(thing) or len(thing) != 4:
        return False
    name, start, end, step = thing
    return is_name(name) and is_key(start, rooms) and is_key(end, rooms) and are_whole(step, axes)


def first_no_tie(axes, rooms, taken, ties):
    """The index of the first thing that is no tie or has a taken name, None if there is none; 0 if ties is no list."""
    if not is_list(ties):
        return 0
    known = {room: True for room in rooms}
    names = {}
    for index, thing in enumerate(ties):
        if not is_tie(axes, known, thing) or thing[0] in taken or thing[0] in names:
            return index
        names[thing[0]] = True
    return None


class Net:
    """A net: a number of axes, a list of rooms, and a list of ties (name, start, end, step)."""

    def __init__(self, axes, rooms, ties):
        if not is_between(axes, 0, MOST_AXES):
            raise BadAxes(axes)
        if not are_rooms(rooms):
            raise BadRooms(rooms)
        index = first_no_tie(axes, rooms, {}, ties)
        if index is not None:
            raise BadTie(index)
        self.axes = axes
        self._rooms = tuple(rooms)
        self._ties = tuple([(name, start, end, tuple(step)) for name, start, end, step in ties])
        self._named = {tie[0]: tie for tie in self._ties}

    def rooms(self):
        """The list of the rooms."""
        return list(self._rooms)

    def ties(self):
        """The list of the ties, tuples with tuples of steps."""
        return list(self._ties)

    def tie(self, name):
        """The tie of this name."""
        if name not in self:
            raise NoTie(name)
        return self._named[name]

    def without(self, names):
        """The net without the ties of these names."""
        self._ask_all(names)
        return Net(self.axes, self._rooms, [tie for tie in self._ties if tie[0] not in names])

    def only(self, names):
        """The net with the ties of these names alone, in its own order."""
        self._ask_all(names)
        return Net(self.axes, self._rooms, [tie for tie in self._ties if tie[0] in names])

    def more(self, ties):
        """The net with further ties behind the others."""
        index = first_no_tie(self.axes, self._rooms, self._named, ties)
        if index is not None:
            raise BadTie(index)
        return Net(self.axes, self._rooms, list(self._ties) + list(ties))

    def _ask_all(self, names):
        """Raise NoTie unless names is a list of names of ties."""
        if not is_list(names):
            raise NoTie(names)
        for name in names:
            if name not in self:
                raise NoTie(name)

    def __len__(self):
        return len(self._ties)

    def __contains__(self, thing):
        return is_key(thing, self._named)

    def __eq__(self, other):
        return (isinstance(other, Net) and self.axes == other.axes
                and self._rooms == other._rooms and self._ties == other._ties)

    def __or__(self, other):
        if not isinstance(other, Net):
            return NotImplemented
        if self.axes != other.axes:
            raise UnlikeAxes()
        for tie in other._ties:
            if tie[0] in self._named:
                raise TieTaken(tie[0])
        rooms = list(self._rooms) + [room for room in other._rooms if room not in self._rooms]
        return Net(self.axes, rooms, list(self._ties) + list(other._ties))

    def __invert__(self):
        backward = [(name, end, start, [-number for number in step]) for name, start, end, step in self._ties]
        return Net(self.axes, self._rooms, backward)


def ties_around(net, thing):
    """The ties that a list of one or more names tells, each of which leads on to the next, the last one to the first.

    None for any other thing.
    """
    if not is_list(thing) or len(thing) == 0 or not all([name in net for name in thing]):
        return None
    ties = [net.tie(name) for name in thing]
    return ties if all([tie[2] == behind[1] for tie, behind in zip(ties, ties[1:] + ties[:1])]) else None


def is_way(net, thing):
    """Whether a thing is a closed way of the net: a list of names of ties that leads from a hall back to this hall."""
    ties = ties_around(net, thing)
    return ties is not None and all([sum([tie[3][axis] for tie in ties]) == 0 for axis in range(net.axes)])

"""Turns: on which lanes of a grid carts can go on, and whether they can jam."""

from repeatnets.checks import ask_sizes
from repeatnets.cuts import cuts, in_order
from repeatnets.errors import BadOrder, BadPair, UnlikeGrids
from repeatnets.halls import lies_in
from repeatnets.kinds import are_whole, is_list, is_order
from repeatnets.lanes import ask_grid, first_no_pair, is_lane, is_pair, lanes_of, pair_of, pair_seen, pairs_of
from repeatnets.lanes import end_of, lane_name, pair_name, step_of, views_of
from repeatnets.nets import Net
from repeatnets.sums import round_of, way_of


class Turns:
    """Pairs of lanes (axis, sign, kind): from the first one of a pair a cart can go on along the other one."""

    def __init__(self, axes, kinds, pairs):
        ask_grid(axes, kinds)
        index = first_no_pair(axes, kinds, pairs)
        if index is not None:
            raise BadPair(index)
        self.axes = axes
        self.kinds = kinds
        self._pairs = tuple(sorted(set([pair_of(pair) for pair in pairs])))
        self._known = {pair: True for pair in self._pairs}

    def pairs(self):
        """The ascending list of the pairs, each once."""
        return list(self._pairs)

    def net(self):
        """The net whose rooms are the lanes and whose ties are the pairs."""
        rooms = [lane_name(lane) for lane in lanes_of(self.axes, self.kinds)]
        ties = [(pair_name(pair), lane_name(pair[0]), lane_name(pair[1]), step_of(self.axes, pair[0]))
                for pair in self._pairs]
        return Net(self.axes, rooms, ties)

    def jam(self):
        """A pair of the sizes of a grid and a jam in it, None if no grid can jam."""
        net = self.net()
        told = round_of(net)
        if told is None:
            return None
        first = {pair_name(pair): pair[0] for pair in self._pairs}
        return fitted(self.axes, [first[name] for name in way_of(net, told)])

    def is_jam(self, sizes, thing):
        """Whether a thing is a jam on the grid of these sizes."""
        ask_sizes(self.axes, sizes)
        if not is_list(thing) or len(thing) == 0 or not all([self._is_placed(placed) for placed in thing]):
            return False
        row = [(tuple(place), tuple(lane)) for place, lane in thing]
        for (place, lane), (end, other) in zip(row, row[1:] + row[:1]):
            if end_of(place, lane) != end or (lane, other) not in self._known or not lies_in(sizes, place):
                return False
        return True

    def _is_placed(self, thing):
        """Whether a thing is a pair of a place and a lane."""
        if not is_list(thing) or len(thing) != 2:
            return False
        return are_whole(thing[0], self.axes) and is_lane(self.axes, self.kinds, thing[1])

    def bars(self, pairs):
        """The list of all least sets of these pairs without which no grid can jam, shorter ones first."""
        if not is_list(pairs):
            raise BadPair(0)
        named = {}
        for index, pair in enumerate(pairs):
            if pair not in self or pair_name(pair) in named:
                raise BadPair(index)
            named[pair_name(pair)] = pair_of(pair)
        return in_order([tuple(sorted([named[name] for name in cut])) for cut in cuts(self.net(), list(named))])

    def seen(self, axes, signs, kinds):
        """The Turns that one sees from elsewhere, where axes, signs and kinds are other ones."""
        if not is_order(axes, self.axes):
            raise BadOrder(axes)
        if not are_whole(signs, self.axes) or not all([sign in (1, -1) for sign in signs]):
            raise BadOrder(signs)
        if not is_order(kinds, self.kinds):
            raise BadOrder(kinds)
        return Turns(self.axes, self.kinds, [pair_seen(pair, (axes, signs, kinds)) for pair in self._pairs])

    def _ask_grid_of(self, other):
        """Raise UnlikeGrids unless the other Turns have the same axes and kinds."""
        if self.axes != other.axes or self.kinds != other.kinds:
            raise UnlikeGrids()

    def __len__(self):
        return len(self._pairs)

    def __contains__(self, thing):
        return is_pair(self.axes, self.kinds, thing) and pair_of(thing) in self._known

    def __eq__(self, other):
        return (isinstance(other, Turns) and self.axes == other.axes and self.kinds == other.kinds
                and self._pairs == other._pairs)

    def __or__(self, other):
        if not isinstance(other, Turns):
            return NotImplemented
        self._ask_grid_of(other)
        return Turns(self.axes, self.kinds, list(self._pairs) + list(other._pairs))

    def __and__(self, other):
        if not isinstance(other, Turns):
            return NotImplemented
        self._ask_grid_of(other)
        return Turns(self.axes, self.kinds, [pair for pair in self._pairs if pair in other._known])

    def __sub__(self, other):
        if not isinstance(other, Turns):
            return NotImplemented
        self._ask_grid_of(other)
        return Turns(self.axes, self.kinds, [pair for pair in self._pairs if pair not in other._known])

    def __invert__(self):
        others = [pair for pair in pairs_of(self.axes, self.kinds) if pair not in self._known]
        return Turns(self.axes, self.kinds, others)


def fitted(axes, lanes):
    """A closed row of lanes as a pair of the sizes of the least grid that has it and the list of places and lanes."""
    place = tuple([0 for _ in range(axes)])
    places = []
    for lane in lanes:
        places.append(place)
        place = end_of(place, lane)
    low = [min([place[axis] for place in places]) for axis in range(axes)]
    high = [max([place[axis] for place in places]) for axis in range(axes)]
    sizes = tuple([most - least + 1 for least, most in zip(low, high)])
    moved = [tuple([number - least for number, least in zip(place, low)]) for place in places]
    return sizes, list(zip(moved, lanes))


def straight(axes, kinds):
    """The pairs of lanes of the same axis, sign and kind."""
    ask_grid(axes, kinds)
    return Turns(axes, kinds, [(lane, lane) for lane in lanes_of(axes, kinds)])


def quarter(axes, kinds):
    """The pairs of lanes of unlike axes."""
    ask_grid(axes, kinds)
    return Turns(axes, kinds, [pair for pair in pairs_of(axes, kinds) if pair[0][0] != pair[1][0]])


def around(axes, kinds):
    """The pairs of lanes of one axis and unlike signs."""
    ask_grid(axes, kinds)
    found = [(lane, other) for lane, other in pairs_of(axes, kinds) if lane[0] == other[0] and lane[1] != other[1]]
    return Turns(axes, kinds, found)


def rising(axes, kinds):
    """The pairs of lanes whose next lane has a greater kind."""
    ask_grid(axes, kinds)
    return Turns(axes, kinds, [(lane, other) for lane, other in pairs_of(axes, kinds) if lane[2] < other[2]])


def level(axes, kinds):
    """The pairs of lanes of one kind."""
    ask_grid(axes, kinds)
    return Turns(axes, kinds, [(lane, other) for lane, other in pairs_of(axes, kinds) if lane[2] == other[2]])


def ordered(axes, kinds, order):
    """The pairs of lanes whose next lane has an axis that comes later in order."""
    ask_grid(axes, kinds)
    if not is_order(order, axes):
        raise BadOrder(order)
    later = {axis: at for at, axis in enumerate(order)}
    found = [(lane, other) for lane, other in pairs_of(axes, kinds) if later[lane[0]] < later[other[0]]]
    return Turns(axes, kinds, found)


def as_seen(one, other):
    """Whether the one is seen as the other from some elsewhere."""
    if one.axes != other.axes or one.kinds != other.kinds:
        raise UnlikeGrids()
    if len(one) != len(other):
        return False
    known = {pair: True for pair in other.pairs()}
    return any([is_seen_so(one, view, known) for view in views_of(one.axes, one.kinds)])


def is_seen_so(one, view, known):
    """Whether all pairs of the one, as they are seen, are known."""
    for pair in one.pairs():
        if pair_seen(pair, view) not in known:
            return False
    return True

"""Lanes, triples (axis, sign, kind), and pairs of a lane and a next lane."""

from itertools import permutations

from repeatnets.errors import BadAxes, BadKinds
from repeatnets.kinds import are_whole, is_between, is_list

MOST_GRID_AXES = 3
MOST_KINDS = 3


def ask_grid(axes, kinds):
    """Raise BadAxes or BadKinds unless a grid can have so many axes and kinds."""
    if not is_between(axes, 1, MOST_GRID_AXES):
        raise BadAxes(axes)
    if not is_between(kinds, 1, MOST_KINDS):
        raise BadKinds(kinds)


def is_lane(axes, kinds, thing):
    """Whether a thing is a lane of these axes and kinds."""
    if not are_whole(thing, 3):
        return False
    axis, sign, kind = thing
    return 0 <= axis < axes and sign in (1, -1) and 0 <= kind < kinds


def is_pair(axes, kinds, thing):
    """Whether a thing is a pair of lanes of these axes and kinds."""
    return is_list(thing) and len(thing) == 2 and all([is_lane(axes, kinds, lane) for lane in thing])


def first_no_pair(axes, kinds, pairs):
    """The index of the first thing that is no pair of lanes, None if there is none; 0 if pairs is no list."""
    if not is_list(pairs):
        return 0
    for index, thing in enumerate(pairs):
        if not is_pair(axes, kinds, thing):
            return index
    return None


def pair_of(thing):
    """A pair of lanes, however told, as a tuple of tuples."""
    lane, other = thing
    return tuple(lane), tuple(other)


def lanes_of(axes, kinds):
    """All lanes of these axes and kinds, ascending."""
    return [(axis, sign, kind) for axis in range(axes) for sign in (-1, 1) for kind in range(kinds)]


def pairs_of(axes, kinds):
    """All pairs of lanes of these axes and kinds, ascending."""
    lanes = lanes_of(axes, kinds)
    return [(lane, other) for lane in lanes for other in lanes]


def step_of(axes, lane):
    """The step from where a lane begins to where it ends."""
    return tuple([lane[1] * int(lane[0] == axis) for axis in range(axes)])


def end_of(place, lane):
    """The place where a lane ends that begins at a place."""
    return tuple([number + more for number, more in zip(place, step_of(len(place), lane))])


def lane_name(lane):
    """The name of the room of a lane."""
    axis, sign, kind = lane
    word = "p" if sign == 1 else "m"
    return f"{word}{axis}.{kind}"


def pair_name(pair):
    """The name of the tie of a pair."""
    return f"{lane_name(pair[0])}.{lane_name(pair[1])}"


def views_of(axes, kinds):
    """All ways to see a grid from elsewhere, as triples of the new axes, the signs and the new kinds."""
    signs = [()]
    for _ in range(axes):
        signs = [row + (sign,) for row in signs for sign in (1, -1)]
    return [(order, row, others) for order in permutations(range(axes)) for row in signs
            for others in permutations(range(kinds))]


def pair_seen(pair, view):
    """A pair as it is seen from elsewhere."""
    axes, signs, kinds = view
    lane, other = [(axes[axis], sign * signs[axis], kinds[kind]) for axis, sign, kind in pair]
    return lane, other

"""Nets made otherwise: turned, flat, shifted, wider, bent; and how one comes of another one by shifting rooms."""

from repeatnets.checks import ask_axis, ask_cells, ask_place, ask_room
from repeatnets.cone import cleared
from repeatnets.errors import BadMatrix
from repeatnets.kinds import are_whole, is_list
from repeatnets.nets import Net
from repeatnets.slopes import along


def turned(net, matrix):
    """The net whose steps are the old ones times a matrix."""
    if not is_matrix(matrix, net.axes):
        raise BadMatrix(matrix)
    ties = [(name, start, end, [along(row, step) for row in matrix]) for name, start, end, step in net.ties()]
    return Net(net.axes, net.rooms(), ties)


def is_matrix(thing, axes):
    """Whether a thing is a square matrix of so many rows whose determinant is not 0."""
    if not is_list(thing) or len(thing) != axes or not all([are_whole(row, axes) for row in thing]):
        return False
    _, leads, _ = cleared(thing)
    return len(leads) == axes


def flat(net, axis):
    """The net without an axis."""
    ask_axis(net, axis)
    ties = [(name, start, end, step[:axis] + step[axis + 1:]) for name, start, end, step in net.ties()]
    return Net(net.axes - 1, net.rooms(), ties)


def shifted(net, room, place):
    """The net with the places of a room counted from another one."""
    ask_room(net, room)
    ask_place(net, place)
    ties = []
    for name, start, end, step in net.ties():
        times = int(end == room) - int(start == room)
        ties.append((name, start, end, [number + times * many for number, many in zip(step, place)]))
    return Net(net.axes, net.rooms(), ties)


def wider(net, axis, size):
    """The net whose cells are so many old ones along an axis."""
    ask_axis(net, axis)
    ask_cells(size)
    rooms = [f"{room}.{cell}" for room in net.rooms() for cell in range(size)]
    ties = []
    for name, start, end, step in net.ties():
        for cell in range(size):
            cells, rest = divmod(cell + step[axis], size)
            wide = step[:axis] + (cells,) + step[axis + 1:]
            ties.append((f"{name}.{cell}", f"{start}.{cell}", f"{end}.{rest}", wide))
    return Net(net.axes, rooms, ties)


def bent(net, axis, size):
    """The net bent to a ring of this size along an axis."""
    return flat(wider(net, axis, size), axis)


def alike(one, other):
    """The places by which the rooms of the one are shifted in the other, None if there are none."""
    if one.axes != other.axes or one.rooms() != other.rooms():
        return None
    if [tie[:3] for tie in one.ties()] != [tie[:3] for tie in other.ties()]:
        return None
    gaps = [(tie[1], tie[2], [number - many for number, many in zip(new[3], tie[3])])
            for tie, new in zip(one.ties(), other.ties())]
    places = placed(one.axes, one.rooms(), gaps)
    return places if all([at_gap(places[start], gap) == places[end] for start, end, gap in gaps]) else None


def placed(axes, rooms, gaps):
    """A place for each room: of rooms that hang together the first one has noughts, the others follow by some gaps."""
    links = gaps + [(end, start, [-number for number in gap]) for start, end, gap in gaps]
    places = {}
    for room in rooms:
        if room not in places:
            places[room] = tuple([0 for _ in range(axes)])
            place_those_behind(room, links, places)
    return {room: places[room] for room in rooms}


def place_those_behind(room, links, places):
    """Put into places all rooms to which links lead, one behind another, from a room that has its place."""
    left = [room]
    while left:
        here = left.pop()
        for start, end, gap in links:
            if start == here and end not in places:
                places[end] = at_gap(places[here], gap)
                left.append(end)


def at_gap(place, gap):
    """The place that lies a gap away."""
    return tuple([number + many for number, many in zip(place, gap)])

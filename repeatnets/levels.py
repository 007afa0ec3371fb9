"""Levels: directions and heights, level below level, which show that no way comes back; and ranks by them."""

from repeatnets.apart import first_core, pieces_of
from repeatnets.checks import ask_place, ask_room
from repeatnets.errors import BadLevels
from repeatnets.kinds import are_whole, is_list
from repeatnets.parts import parts_along
from repeatnets.slopes import along, rises_by


def levels_of(net):
    """Levels of the net, None if there are none."""
    found = pieces_of(net)
    return None if first_core(found) is not None else [level_of(piece) for piece in found]


def level_of(piece):
    """A level of a piece in which just its loose ties rise."""
    _, direction, heights = piece.slope
    return list(piece.group), direction, heights, [level_of(inner) for inner in piece.within]


def is_levels(net, thing):
    """Whether a thing is levels of the net."""
    return are_levels(net.axes, net.rooms(), net.ties(), thing)


def are_levels(axes, rooms, ties, thing):
    """Whether a thing is levels of these ties."""
    parts = parts_along(rooms, ties)
    if not is_list(thing) or len(thing) != len(parts):
        return False
    return all([is_level(axes, group, inner, level) for (group, inner), level in zip(parts, thing)])


def is_level(axes, group, ties, thing):
    """Whether a thing is a level of a part of these rooms and ties."""
    if not is_list(thing) or len(thing) != 4:
        return False
    rooms, direction, heights, levels = thing
    if not is_list(rooms) or list(rooms) != group:
        return False
    if not are_whole(direction, axes) or not are_whole(heights, len(group)):
        return False
    rises = rises_by(group, ties, direction, heights)
    if min(rises) < 0 or max(rises) == 0:
        return False
    return are_levels(axes, group, even_ties(ties, rises), levels)


def even_ties(ties, rises):
    """Those of the ties that have no rise."""
    return [tie for tie, rise in zip(ties, rises) if rise == 0]


def parts_of(net):
    """How the net falls apart: for each part its rooms, its loose ties, and the parts of the other ties."""
    return [told_part(piece) for piece in pieces_of(net)]


def told_part(piece):
    """A piece as a tuple of its rooms, the names of its loose ties, and the pieces within, told likewise."""
    return list(piece.group), piece.loose, [told_part(inner) for inner in piece.within]


def depth(net):
    """The least depth that levels of the net have, None if it closes."""
    found = pieces_of(net)
    return None if first_core(found) is not None else depth_of(found)


def depth_of(found):
    """How deep some pieces are nested."""
    return max([1 + depth_of(piece.within) for piece in found], default=0)


def rank(net, levels, room, place):
    """The rank of a hall by levels of the net: a list of integers that ascends along each tie."""
    if not is_levels(net, levels):
        raise BadLevels(levels)
    ask_room(net, room)
    ask_place(net, place)
    ties = net.ties()
    told = [groups_ahead(net.rooms(), ties, room)]
    level = level_with(levels, room)
    while level is not None:
        rooms, direction, heights, lower = level
        told.append(along(direction, place) + heights[list(rooms).index(room)])
        ties = [tie for tie in ties if tie[1] in rooms and tie[2] in rooms]
        ties = even_ties(ties, rises_by(rooms, ties, direction, heights))
        told.append(groups_ahead(rooms, ties, room))
        level = level_with(lower, room)
    return told


def level_with(levels, room):
    """The one of some levels whose part has the room, None if none has."""
    for level in levels:
        if room in level[0]:
            return level
    return None


def groups_ahead(rooms, ties, room):
    """The greatest number of groups that one can go through along ties, one after another, ahead of a room's."""
    group = groups_of(rooms, ties)
    links = [(group[tie[1]], group[tie[2]]) for tie in ties if group[tie[1]] != group[tie[2]]]
    ahead = {group[name]: 0 for name in rooms}
    late = links
    while late:
        for before, behind in late:
            ahead[behind] = max(ahead[behind], ahead[before] + 1)
        late = [(before, behind) for before, behind in links if ahead[behind] <= ahead[before]]
    return ahead[group[room]]


def groups_of(rooms, ties):
    """For each room the number of its group, a part or the room alone: the index of the group's first room."""
    group = {room: index for index, room in enumerate(rooms)}
    for names, _ in parts_along(rooms, ties):
        for name in names:
            group[name] = group[names[0]]
    return group

"""Deeds: what a net is changed to, one room or tie at a time; and rows of deeds told by words."""

from repeatnets.changes import shifted
from repeatnets.checks import ask_place, ask_room
from repeatnets.errors import BadRooms, BadTie, TieTaken
from repeatnets.kinds import is_list, is_name
from repeatnets.nets import Net


def with_room(net, name):
    """The net with a room behind the others."""
    rooms = net.rooms()
    if not is_name(name) or name in rooms:
        raise BadRooms(name)
    return Net(net.axes, rooms + [name], net.ties())


def with_tie(net, name, start, end, step):
    """The net with a tie behind the others."""
    if not is_name(name):
        raise BadTie(0)
    if name in net:
        raise TieTaken(name)
    ask_room(net, start)
    ask_room(net, end)
    ask_place(net, step)
    return net.more([(name, start, end, step)])


def with_cut(net, name):
    """The net without a tie."""
    return net.without([name])


def with_move(net, room, place):
    """The net with the places of a room counted from another one."""
    return shifted(net, room, place)


DEEDS = {"room": with_room, "tie": with_tie, "cut": with_cut, "move": with_move}
THINGS = {"room": 1, "tie": 4, "cut": 1, "move": 2}


def is_deed(thing):
    """Whether a thing is a word for a deed with as many things behind it as the deed takes."""
    if not is_list(thing) or len(thing) == 0:
        return False
    word, *things = thing
    return isinstance(word, str) and word in THINGS and len(things) == THINGS[word]


def first_no_deed(deeds):
    """The index of the first thing that is no deed, None if there is none; 0 if deeds is no list."""
    if not is_list(deeds):
        return 0
    for index, thing in enumerate(deeds):
        if not is_deed(thing):
            return index
    return None


def nets_behind(net, deeds):
    """The nets behind each of some deeds, done one behind another."""
    nets = []
    for word, *things in deeds:
        deed = DEEDS[word]
        net = deed(net, *things)
        nets.append(net)
    return nets

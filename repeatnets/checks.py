"""What several functions ask of their arguments ahead of all else."""

from repeatnets.errors import BadNumber, BadPlace, BadSizes, NoAxis, NoRoom
from repeatnets.kinds import are_counts, are_whole, is_between

MOST_CELLS = 40


def ask_room(net, room):
    """Raise NoRoom unless this is a room of the net."""
    if room not in net.rooms():
        raise NoRoom(room)


def ask_place(net, place):
    """Raise BadPlace unless this is a place of the net."""
    if not are_whole(place, net.axes):
        raise BadPlace(place)


def ask_axis(net, axis):
    """Raise NoAxis unless this is an axis of the net."""
    if not is_between(axis, 0, net.axes - 1):
        raise NoAxis(axis)


def ask_cells(number):
    """Raise BadNumber unless so many old cells can make up a new one."""
    if not is_between(number, 1, MOST_CELLS):
        raise BadNumber(number)


def ask_sizes(axes, sizes):
    """Raise BadSizes unless these are sizes of a box of so many axes."""
    if not are_counts(sizes, axes):
        raise BadSizes(sizes)

"""Directions: the least heights with which no tie falls by one, and rings that show that there are none."""

from repeatnets.checks import ask_place
from repeatnets.climbs import Climb
from repeatnets.nets import ties_around
from repeatnets.slopes import along


def heights(net, direction):
    """The list of the least heights from 0 on with which no tie falls, None if some tie falls with any."""
    ask_place(net, direction)
    climb = climb_by(net, direction)
    return climb.told() if climb.ring is None else None


def falling(net, direction):
    """A ring whose ties' steps, each times the direction, sum to less than 0; None if there is none."""
    ask_place(net, direction)
    return climb_by(net, direction).ring


def climb_by(net, direction):
    """The climb of the rooms of a net by a direction."""
    return Climb(net.rooms(), [(name, start, end, along(direction, step)) for name, start, end, step in net.ties()])


def is_falling(net, direction, thing):
    """Whether a thing is a ring that falls by the direction."""
    ask_place(net, direction)
    ties = ties_around(net, thing)
    if ties is None or len({tie[1]: True for tie in ties}) < len(ties):
        return False
    return sum([along(direction, tie[3]) for tie in ties]) < 0

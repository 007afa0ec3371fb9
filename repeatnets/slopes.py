"""Slopes: directions and heights, and the rises of ties by them."""

from repeatnets.cone import cleared, shortened


def along(direction, step):
    """The sum of the integers of a direction times those of a step or a place."""
    return sum([number * many for number, many in zip(direction, step)])


def rises_by(rooms, ties, direction, heights):
    """The rise of each tie by a direction and by heights, one for each of the rooms."""
    height = {room: number for room, number in zip(rooms, heights)}
    return [along(direction, tie[3]) + height[tie[2]] - height[tie[1]] for tie in ties]


def walked_from(rooms, ties, rises):
    """For each room of a part the steps and the rises, both summed up, of some way there from its first room."""
    found = {rooms[0]: ([0 for _ in ties[0][3]], 0)}
    left = [rooms[0]]
    while left:
        here = left.pop()
        place, rise = found[here]
        for tie, more in zip(ties, rises):
            if tie[1] == here and tie[2] not in found:
                found[tie[2]] = ([number + many for number, many in zip(place, tie[3])], rise + more)
                left.append(tie[2])
    return found


def slope_of(rooms, ties, rises):
    """A direction and heights by which the ties of a part rise as told, all of them so and so many times.

    A room reached by some way has what the way rises as its height, less what the direction gives to the way's
    steps. So each tie that is not on such a way tells one equation, in which just the direction is unknown.
    """
    found = walked_from(rooms, ties, rises)
    rows = []
    for tie, more in zip(ties, rises):
        (start, before), (end, behind) = found[tie[1]], found[tie[2]]
        rows.append([one + many - other for one, many, other in zip(start, tie[3], end)] + [before + more - behind])
    scale, leads, solved = cleared(rows)
    direction = [0 for _ in ties[0][3]]
    for lead, row in zip(leads, solved):
        direction[lead] = row[-1]
    heights = [scale * found[room][1] - along(direction, found[room][0]) for room in rooms]
    numbers = shortened(direction + heights)
    return numbers[:len(direction)], numbers[len(direction):]

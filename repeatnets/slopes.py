"""Slopes: the rises of ties by a direction and by heights."""


def along(direction, step):
    """The sum of the integers of a direction times those of a step or a place."""
    return sum([number * many for number, many in zip(direction, step)])


def rises_by(rooms, ties, direction, heights):
    """The rise of each tie by a direction and by heights, one for each of the rooms."""
    height = {room: number for room, number in zip(rooms, heights)}
    return [along(direction, tie[3]) + height[tie[2]] - height[tie[1]] for tie in ties]

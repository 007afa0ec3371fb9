"""Parts: greatest sets of rooms from each of which ties lead to each."""


def neighbours(rooms, pairs):
    """For each room the list of the rooms to which pairs lead from it."""
    onward = {room: [] for room in rooms}
    for start, end in pairs:
        onward[start].append(end)
    return onward


def reached(onward, room):
    """The rooms to which one comes from a room by one tie or more, as keys of a dict."""
    found = {}
    left = [room]
    while left:
        here = left.pop()
        for other in onward[here]:
            if other not in found:
                found[other] = True
                left.append(other)
    return found


def parts_along(rooms, ties):
    """The parts of some ties, in the order of their first rooms, as pairs of a list of rooms and a list of ties."""
    onward = neighbours(rooms, [(tie[1], tie[2]) for tie in ties])
    backward = neighbours(rooms, [(tie[2], tie[1]) for tie in ties])
    placed = {}
    parts = []
    for room in rooms:
        if room not in placed:
            ahead = reached(onward, room)
            behind = reached(backward, room)
            group = [other for other in rooms if other in ahead and other in behind]
            if group:
                placed.update({other: True for other in group})
                parts.append((group, [tie for tie in ties if tie[1] in group and tie[2] in group]))
    return parts


def hang_together(rooms, ties):
    """Whether from the end of each tie these ties lead to the start of each other one."""
    parts = parts_along(rooms, ties)
    return len(parts) == 1 and len(parts[0][1]) == len(ties)

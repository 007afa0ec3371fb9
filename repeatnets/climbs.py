"""Heights of rooms that are raised tie by tie, just as far as is needed that no tie falls."""


class Climb:
    """The least heights of rooms from 0 on with which no link falls, or a ring of links that falls with any.

    Links are tuples (name, start, end, rise), the rise being that with heights of 0. A room stays at 0 or was raised
    by a link to what its start asks for. If these links lead back to where they come from, they are a ring that
    falls: the last of them would raise without an end. Without such a ring no room is raised by a way that
    comes through a room twice, so there are fewer rounds of raising than rooms.
    """

    def __init__(self, rooms, links):
        self.names = rooms
        self.height = {room: 0 for room in rooms}
        self.raised_by = {}
        self.onward = {room: [] for room in rooms}
        for name, start, end, rise in links:
            self.onward[start].append((name, end, rise))
        self.ring = None
        late = rooms
        while late and self.ring is None:
            late = self.raised_from(late)
            self.ring = self.ring_among(late)

    def raised_from(self, rooms):
        """Raise the rooms to which links from some rooms fall, and return the list of those raised."""
        raised = {}
        for start in rooms:
            for name, end, rise in self.onward[start]:
                if self.height[start] - rise > self.height[end]:
                    self.height[end] = self.height[start] - rise
                    self.raised_by[end] = (start, name)
                    raised[end] = True
        return list(raised)

    def ring_among(self, rooms):
        """The names of a ring of the links that raised last, found back from some rooms, None if there is none."""
        found_from = {}
        for room in rooms:
            here = room
            while here in self.raised_by and here not in found_from:
                found_from[here] = room
                here = self.raised_by[here][0]
            if found_from.get(here) == room:
                return self.ring_through(here)
        return None

    def ring_through(self, last):
        """The names of the links that raised last, back from a room to itself, in the order in which they lead."""
        here, name = self.raised_by[last]
        names = [name]
        while here != last:
            here, name = self.raised_by[here]
            names.append(name)
        return names[::-1]

    def told(self):
        """The list of the heights, one for each room, in order."""
        return [self.height[room] for room in self.names]

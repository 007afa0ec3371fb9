"""Halls found from one hall, those that are as many ties away after those that are nearer."""


class Spread:
    """The halls to which ties lead from the hall of a room at the place of noughts."""

    def __init__(self, room, axes, ties):
        self.links = ties
        self.before = {}
        self.edge = {(room, tuple([0 for _ in range(axes)])): True}
        self.depth = 0

    def go_on(self):
        """Find the halls that are one tie further away than those of the edge, and make them the edge."""
        found = {}
        for hall in self.edge:
            room, place = hall
            for name, start, end, step in self.links:
                if start == room:
                    other = (end, tuple([number + many for number, many in zip(place, step)]))
                    if other not in self.before:
                        self.before[other] = (hall, name)
                        found[other] = True
        self.edge = found
        self.depth += 1

    def trail(self, hall):
        """The names of the ties from a hall of the edge back to the first hall."""
        names = []
        for _ in range(self.depth):
            hall, name = self.before[hall]
            names.append(name)
        return names

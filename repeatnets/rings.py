"""Rings of ties, and the balanced sums that are made up of them."""

from repeatnets.climbs import Climb
from repeatnets.cone import Cone, cleared, shortened
from repeatnets.slopes import along


class Rings:
    """Those rings of some ties that are known so far, each with the sum of its steps.

    Each balanced sum is made up of rings whose steps, so many times, sum to nought together. Rings are too many to go
    through all of them; so each question is asked of the known ones, and a ring that the answer has not thought of is
    learnt as long as there is one.
    """

    def __init__(self, axes, rooms, ties):
        self.axes = axes
        self.group = rooms
        self.links = ties
        self.named = {tie[0]: tie for tie in ties}
        self.known = []
        self.strides = []

    def seek(self, worth):
        """Look for a balanced sum whose counts, each times what its tie is worth, sum to more than 0.

        worth is a dict from names of ties to integers; those that it lacks are worth nothing. Returned is a pair:
        such a sum, and None; or None and a triple (times, direction, heights), times from 1 on, by which each tie
        rises at least so many times its worth: as rises along a balanced sum sum to nought, there is no such one.
        """
        counts, slope = self.seek_known(worth)
        while counts is None:
            times, direction = slope
            climb = Climb(self.group, [(name, start, end, along(direction, step) - times * worth.get(name, 0))
                                       for name, start, end, step in self.links])
            if climb.ring is None:
                return None, (times, direction, climb.told())
            self.learn(climb.ring)
            counts, slope = self.seek_known(worth)
        return counts, None

    def learn(self, ring):
        """Take a ring, a list of names of ties, to those that are known."""
        self.known.append(ring)
        self.strides.append([sum([self.named[name][3][axis] for name in ring]) for axis in range(self.axes)])

    def seek_known(self, worth):
        """The same of the known rings alone, of which a pair (times, direction) is enough to tell of."""
        cone = Cone([[stride[axis] for stride in self.strides] for axis in range(self.axes)], len(self.known))
        counts, bound = cone.seek([sum([worth.get(name, 0) for name in ring]) for ring in self.known])
        if counts is None:
            times, rises = bound
            return None, direction_by(self.axes, self.strides, times, rises)
        return self.summed(counts), None

    def summed(self, counts):
        """The counts of ties that rings, told by their indexes, have so many times together."""
        told = {}
        for index in counts:
            for name in self.known[index]:
                told[name] = told.get(name, 0) + counts[index]
        names = [tie[0] for tie in self.links if tie[0] in told]
        return {name: count for name, count in zip(names, shortened([told[name] for name in names]))}


def direction_by(axes, strides, times, rises):
    """An integer from 1 on and a direction by which the strides rise to it as the told rises are to times."""
    scale, leads, solved = cleared([list(stride) + [rise] for stride, rise in zip(strides, rises)])
    direction = [0 for _ in range(axes)]
    for lead, row in zip(leads, solved):
        direction[lead] = row[-1]
    numbers = shortened([scale * times] + direction)
    return numbers[0], numbers[1:]

"""How ties fall apart: into parts, and these, once the ties in no balanced sum are gone, into lesser parts."""

from repeatnets.parts import parts_along
from repeatnets.rings import Rings


class Piece:
    """A part: its rooms and ties, balanced sums that have all ties that any has, and the pieces of these ties.

    By its slope (times, direction, heights) just the others, the loose ones, rise. If no tie is loose the part is a
    core: it closes, and it has neither a slope nor pieces, as they would be the part itself again.
    """

    def __init__(self, axes, group, ties):
        self.group = group
        self.links = ties
        self.rings = Rings(axes, group, ties)
        self.sums = []
        self.slope = None
        self.within = []
        self.loose = self.left_over()
        if self.loose:
            even = [tie for tie in ties if tie[0] not in self.loose]
            self.within = pieces(axes, group, even)

    def left_over(self):
        """Find the sums, and the slope by which the ties that they leave over rise; the names of these, in order."""
        left = {tie[0]: 1 for tie in self.links}
        while left:
            counts, self.slope = self.rings.seek(left)
            if counts is None:
                return list(left)
            self.sums.append(counts)
            left = {name: 1 for name in left if name not in counts}
        return []

    def is_core(self):
        """Whether each tie is in a balanced sum, so that some closed way goes along all of them."""
        return not self.loose


def pieces(axes, rooms, ties):
    """The parts of some ties, in order, as pieces."""
    return [Piece(axes, group, inner) for group, inner in parts_along(rooms, ties)]


def pieces_of(net):
    """The parts of a net, in order, as pieces."""
    return pieces(net.axes, net.rooms(), net.ties())


def cores_in(found):
    """Those of some pieces, and of the ones within, at whatever depth, that are cores, in order."""
    told = []
    for piece in found:
        told.extend([piece] if piece.is_core() else cores_in(piece.within))
    return told


def first_core(found):
    """The first of the cores in some pieces, None if there is none."""
    cores = cores_in(found)
    return cores[0] if cores else None

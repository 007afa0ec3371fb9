"""How ties fall apart: into parts, and these, once the ties in no balanced sum are gone, into lesser parts."""

from repeatnets.cone import Cone
from repeatnets.parts import parts_along


def cone_of(axes, rooms, ties):
    """The counts of ties that are balanced at each room and whose steps sum to nought on each axis."""
    rows = [[int(tie[2] == room) - int(tie[1] == room) for tie in ties] for room in rooms]
    rows.extend([[tie[3][axis] for tie in ties] for axis in range(axes)])
    return Cone(rows, len(ties))


def counts_named(ties, counts):
    """Counts by the names of the ties instead of their indexes, in the order of the ties."""
    return {tie[0]: counts[index] for index, tie in enumerate(ties) if index in counts}


def sum_through(axes, rooms, ties, name):
    """A balanced sum of some ties that has the one of this name, None if there is none."""
    wanted = {index: True for index, tie in enumerate(ties) if tie[0] == name}
    counts, _ = cone_of(axes, rooms, ties).seek(wanted)
    return None if counts is None else counts_named(ties, counts)


def sums_and_rises(axes, rooms, ties):
    """Balanced sums that have all ties that any has, and a rise for each tie: above 0 for the others, else 0."""
    cone = cone_of(axes, rooms, ties)
    sums = []
    wanted = {index: True for index in range(len(ties))}
    while wanted:
        counts, rises = cone.seek(wanted)
        if counts is None:
            return sums, rises
        sums.append(counts_named(ties, counts))
        wanted = {index: True for index in wanted if index not in counts}
    return sums, [0 for _ in ties]


class Piece:
    """A part: its rooms and ties, balanced sums and rises of these, and the pieces of the ties without a rise.

    If no tie rises, the part closes, and it has no pieces: they would be the part itself again.
    """

    def __init__(self, axes, group, ties):
        self.group = group
        self.links = ties
        self.sums, self.rises = sums_and_rises(axes, group, ties)
        self.within = []
        if not self.is_core():
            even = [tie for tie, rise in zip(ties, self.rises) if rise == 0]
            self.within = pieces(axes, group, even)

    def is_core(self):
        """Whether each tie is in a balanced sum, so that some closed way goes along all of them."""
        return not any(self.rises)

    def loose(self):
        """The names of the ties that no balanced sum has."""
        return [tie[0] for tie, rise in zip(self.links, self.rises) if rise > 0]


def pieces(axes, rooms, ties):
    """The parts of some ties, in order, as pieces."""
    return [Piece(axes, group, inner) for group, inner in parts_along(rooms, ties)]


def pieces_of(net):
    """The parts of a net, in order, as pieces."""
    return pieces(net.axes, net.rooms(), net.ties())


def first_core(found):
    """The first of some pieces, or of those within, at whatever depth, that is a core; None if there is none."""
    for piece in found:
        core = piece if piece.is_core() else first_core(piece.within)
        if core is not None:
            return core
    return None

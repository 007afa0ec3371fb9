"""Desks: live nets, on which deeds are done, taken back and done again."""

from repeatnets.deeds import first_no_deed, nets_behind, with_cut, with_move, with_room, with_tie
from repeatnets.errors import BadDeed
from repeatnets.sums import closes


class Stand:
    """A net as it stands at some time, and whether it closes, which is reckoned when it is first asked for."""

    def __init__(self, net):
        self.shown = net
        self.answer = None

    def closing(self):
        """Whether the net closes."""
        if self.answer is None:
            self.answer = closes(self.shown)
        return self.answer


class Desk:
    """A live net: the stands ahead of and behind all deeds, and how many of the deeds are not taken back.

    The stands are kept in a tuple, so that a copy, or what a trial goes back to, is just this tuple and a number.
    """

    def __init__(self, net):
        self._stands = (Stand(net),)
        self._done = 0

    def net(self):
        """The net as it is."""
        return self._stands[self._done].shown

    def room(self, name):
        """Put a room behind the others; whether the net closes then."""
        return self._go_on(with_room(self.net(), name))

    def tie(self, name, start, end, step):
        """Put a tie behind the others; whether the net closes then."""
        return self._go_on(with_tie(self.net(), name, start, end, step))

    def cut(self, name):
        """Take a tie away; whether the net closes then."""
        return self._go_on(with_cut(self.net(), name))

    def move(self, room, place):
        """Count the places of a room from another one; whether the net closes then."""
        return self._go_on(with_move(self.net(), room, place))

    def _go_on(self, net):
        """Do a deed behind which the net is this one: what was taken back can not be done again."""
        stand = Stand(net)
        told = stand.closing()
        self._stands = self._stands[:self._done + 1] + (stand,)
        self._done += 1
        return told

    def is_closed(self):
        """Whether the net closes as it is."""
        return self._stands[self._done].closing()

    def since(self):
        """The number of the deed behind which, and behind all later ones, the net closes; None if it does not."""
        if not self.is_closed():
            return None
        number = self._done
        while number > 0 and self._stands[number - 1].closing():
            number -= 1
        return number

    def would(self, deeds):
        """The list of what these deeds would return, one behind another; none of them is done."""
        index = first_no_deed(deeds)
        if index is not None:
            raise BadDeed(index)
        return [closes(net) for net in nets_behind(self.net(), deeds)]

    def undo(self):
        """Take the last deed back; whether there is one."""
        if self._done == 0:
            return False
        self._done -= 1
        return True

    def again(self):
        """Do the last deed again that was taken back; whether there is one."""
        if self._done + 1 == len(self._stands):
            return False
        self._done += 1
        return True

    def copy(self):
        """Another desk that is as this one is."""
        other = Desk(self.net())
        other._stands = self._stands
        other._done = self._done
        return other

    def trial(self, work):
        """Call a function with this desk, return what it returns, and make the desk as it was ahead."""
        stands = self._stands
        done = self._done
        try:
            return work(self)
        finally:
            self._stands = stands
            self._done = done

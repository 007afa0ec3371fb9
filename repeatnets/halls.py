"""The halls of a box and the ties that lead from hall to hall within it."""


def lies_in(sizes, place):
    """Whether a place is in the box of these sizes."""
    return all([0 <= number < size for size, number in zip(sizes, place)])


def starts_within(sizes, step):
    """The numbers, ascending, of those places of a box from which a step leads to a place of the box."""
    numbers = [0]
    for size, more in zip(sizes, step):
        numbers = [number * size + at for number in numbers for at in range(max(0, -more), min(size, size - more))]
    return numbers


def place_of(sizes, number):
    """The place of a box that has a number: the places are counted from 0, the last axis fastest."""
    place = []
    for size in reversed(sizes):
        number, at = divmod(number, size)
        place.append(at)
    return tuple(place[::-1])


class Box:
    """A box of a net: its halls by numbers, and for each the pairs of a hall and a tie's name that lead on from it."""

    def __init__(self, net, sizes):
        self.names = net.rooms()
        self.sizes = tuple(sizes)
        self.volume = 1
        for size in sizes:
            self.volume *= size
        first = {room: index * self.volume for index, room in enumerate(self.names)}
        self.onward = [[] for _ in range(len(self.names) * self.volume)]
        for name, start, end, step in net.ties():
            shift = first[end] - first[start] + self.distance(step)
            for number in starts_within(self.sizes, step):
                hall = first[start] + number
                self.onward[hall].append((hall + shift, name))

    def distance(self, step):
        """How far the numbers of two places are apart that are a step apart."""
        told = 0
        for size, more in zip(self.sizes, step):
            told = told * size + more
        return told

    def hall(self, number):
        """The hall that has a number, as a pair of a room and a place."""
        room, place = divmod(number, self.volume)
        return self.names[room], place_of(self.sizes, place)

    def longest(self):
        """The number of ties of a longest way, None if some way comes back.

        Halls are taken once all ways to them are gone; those on a way that comes back, and behind it, never are.
        """
        waiting = [0 for _ in self.onward]
        for links in self.onward:
            for other, _ in links:
                waiting[other] += 1
        length = [0 for _ in self.onward]
        ready = [hall for hall, many in enumerate(waiting) if many == 0]
        taken = 0
        while ready:
            hall = ready.pop()
            taken += 1
            for other, _ in self.onward[hall]:
                length[other] = max(length[other], length[hall] + 1)
                waiting[other] -= 1
                if waiting[other] == 0:
                    ready.append(other)
        return max(length) if taken == len(length) else None

    def way_back(self, first, most):
        """The names along a shortest way from a hall back to it, None if it would have more than most ties.

        Halls of lesser numbers are left out: asked of all halls in order, some shortest way is found all the same.
        """
        before = {}
        edge = [first]
        for _ in range(most):
            behind = []
            for hall in edge:
                for other, name in self.onward[hall]:
                    if other >= first and other not in before:
                        before[other] = (hall, name)
                        behind.append(other)
            if first in before:
                return self.trail(before, first)
            edge = behind
        return None

    def trail(self, before, first):
        """The names from a hall on to itself, where for each hall is told from where and by which tie it was found."""
        hall, name = before[first]
        names = [name]
        while hall != first:
            hall, name = before[hall]
            names.append(name)
        return names[::-1]

    def shortest(self):
        """A pair of a hall and the names of a shortest way from it back to it, None if none comes back."""
        if self.longest() is not None:
            return None
        best = None
        most = len(self.onward)
        for first in range(len(self.onward)):
            names = self.way_back(first, most)
            if names is not None:
                best = self.hall(first), names
                most = len(names) - 1
        return best

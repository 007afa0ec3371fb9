"""Rounds and balanced sums of ties, and the closed ways that they tell."""

from repeatnets.apart import first_core, pieces_of
from repeatnets.cone import shortened
from repeatnets.errors import BadNumber, BadRound, NoTie
from repeatnets.kinds import is_count
from repeatnets.parts import hang_together
from repeatnets.rings import Rings
from repeatnets.spreads import Spread

MOST_WALKED = 1000


def is_sum(net, thing):
    """Whether a thing is a balanced sum: a dict from names of ties to counts."""
    if not isinstance(thing, dict) or len(thing) == 0:
        return False
    if not all([name in net and is_count(thing[name]) for name in thing]):
        return False
    ties = [net.tie(name) for name in thing]
    balance = {room: 0 for room in net.rooms()}
    for name, start, end, _ in ties:
        balance[start] -= thing[name]
        balance[end] += thing[name]
    steps = [sum([thing[tie[0]] * tie[3][axis] for tie in ties]) for axis in range(net.axes)]
    return not any(list(balance.values())) and not any(steps)


def is_round(net, thing):
    """Whether a thing is a round: a balanced sum whose ties hang together."""
    return is_sum(net, thing) and hang_together(net.rooms(), [net.tie(name) for name in thing])


def closes(net):
    """Whether the net has a closed way."""
    return first_core(pieces_of(net)) is not None


def round_of(net):
    """A round of the net, None if there is none."""
    core = first_core(pieces_of(net))
    return None if core is None else round_in(core)


def round_in(core):
    """A round of a core's ties: the shortest one of its sums that is a round, else all sums together.

    All together they have each tie of the core, and so they hang together.
    """
    links = {tie[0]: tie for tie in core.links}
    rounds = [told for told in core.sums if hang_together(core.group, [links[name] for name in told])]
    if rounds:
        return min(rounds, key=length_of)
    counts = shortened([sum([one.get(name, 0) for one in core.sums]) for name in links])
    return {name: count for name, count in zip(links, counts)}


def length_of(counts):
    """How many ties some counts have together."""
    return sum(list(counts.values()))


def sum_with(net, name):
    """A balanced sum that has this tie, None if there is none."""
    if name not in net:
        raise NoTie(name)
    counts, _ = Rings(net.axes, net.rooms(), net.ties()).seek({name: 1})
    return counts


def walked(net, thing):
    """A closed way whose ties stand as often as a round tells."""
    if not is_round(net, thing) or length_of(thing) > MOST_WALKED:
        raise BadRound(thing)
    return way_of(net, thing)


def way_of(net, counts):
    """A closed way whose ties stand as often as a round tells, however many they are."""
    ties = [net.tie(name) for name in counts]
    leaving = {tie[1]: [] for tie in ties}
    for name, start, end, _ in ties:
        leaving[start].extend([(end, name) for _ in range(counts[name])])
    return walked_along(leaving, ties[0][1])


def walked_along(leaving, start):
    """The names along a way from a room back to it that takes each of the told ways to leave a room once.

    The way goes on while it can. Where it can not, its last ties are set aside, up to a room that can still be
    left: what is taken there comes back to this very room, as all rooms are balanced, and stands ahead of them.
    """
    trail = [(start, None)]
    names = []
    while trail:
        room, name = trail[-1]
        if leaving[room]:
            trail.append(leaving[room].pop())
        else:
            trail.pop()
            if name is not None:
                names.append(name)
    return names[::-1]


def least_way(net, most):
    """A closed way with as few ties as any, None if each one has more than most ties."""
    if not is_count(most):
        raise BadNumber(most)
    if not closes(net):
        return None
    ties = net.ties()
    turned = (~net).ties()
    spreads = [(Spread(room, net.axes, ties), Spread(room, net.axes, turned)) for room in net.rooms()]
    length = 0
    while length < most:
        length += 1
        for onward, backward in spreads:
            way = met(onward, backward, length)
            if way is not None:
                return way
    return None


def met(onward, backward, length):
    """A closed way of this length where the halls found onward and those found backward meet, else None.

    The two go on by turns, so that each finds the halls for half of the way only.
    """
    if length % 2 == 1:
        onward.go_on()
    else:
        backward.go_on()
    for hall in onward.edge:
        if hall in backward.edge:
            return onward.trail(hall)[::-1] + backward.trail(hall)
    return None

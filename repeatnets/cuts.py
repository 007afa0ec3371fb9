"""Cuts: least sets of ties without which a net does not close."""

from repeatnets.errors import NoTie
from repeatnets.kinds import is_list
from repeatnets.sums import closes, round_of


def cuts(net, names):
    """The list of all least sets of these ties without which the net does not close, shorter ones first."""
    ask_unlike_names(net, names)
    return in_order([tuple(sorted(cut)) for cut in least_cuts(net, names)])


def ask_unlike_names(net, names):
    """Raise NoTie unless names is a list of unlike names of ties."""
    if not is_list(names):
        raise NoTie(names)
    stood = {}
    for name in names:
        if name not in net or name in stood:
            raise NoTie(name)
        stood[name] = True


def least_cuts(net, names):
    """The least cuts among these ties, in any order, as lists of names.

    At each time `left` are the least sets that have a tie of each round known so far. One of them that leaves no
    round is a cut; it stays least, as no set without a tie of each known round can be one. Another one leaves a
    round that was not known.
    """
    found = []
    left = [[]]
    while left:
        cut = left.pop()
        told = round_of(net.without(cut))
        if told is None:
            found.append(cut)
        else:
            hits = [name for name in names if name in told]
            left = least_hits(left + [cut], hits, found)
    return found


def least_hits(sets, hits, found):
    """The least ones of the sets of names, those without any hit made to have one, that have none of those found.

    Of the sets as they were none has another one, so no two of those made wider do, either: it is enough to
    leave out those of them that have a set which had a hit before.
    """
    kept = [names for names in sets if has_any(names, hits)]
    wider = [names + [name] for names in sets if not has_any(names, hits) for name in hits]
    return kept + [names for names in wider if not any([has_all(names, other) for other in kept + found])]


def has_any(names, others):
    """Whether some of the others is among the names."""
    return any([name in names for name in others])


def has_all(names, others):
    """Whether all others are among the names."""
    return all([name in names for name in others])


def in_order(rows):
    """The tuples with shorter ones first, those that are as long as Python orders them."""
    return sorted(rows, key=length_ahead)


def length_ahead(row):
    """A tuple behind its own length."""
    return len(row), row


def vital(net):
    """The names of the ties, in order, without each of which, by itself, the net does not close."""
    told = round_of(net)
    if told is None:
        return []
    return [tie[0] for tie in net.ties() if tie[0] in told and not closes(net.without([tie[0]]))]

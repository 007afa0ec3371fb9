"""Costs of ties: how little the ties of closed ways can cost on the mean, and prices that show it."""

from repeatnets.apart import cores_in, pieces_of
from repeatnets.errors import BadCosts, BadNumber
from repeatnets.kinds import are_whole, is_count, is_list, is_whole
from repeatnets.means import Bottom, excess_of, margins
from repeatnets.sums import round_of


def cores(net):
    """The list of the cores of the net, each a pair of its rooms and the names of its ties."""
    return [(list(core.group), [tie[0] for tie in core.links]) for core in cores_in(pieces_of(net))]


def cheapest(net, costs):
    """The greatest fraction below which no closed way's mean lies, None if the net does not close."""
    bottom = bottom_of(net, costs)
    return None if bottom is None else bottom.fraction


def cheap_sum(net, costs):
    """A balanced sum of ties of one core whose mean is cheapest, None if there is none."""
    bottom = bottom_of(net, costs)
    return None if bottom is None else bottom.cheap


def cheap_round(net, costs):
    """A round whose mean is cheapest, None if there is none."""
    bottom = bottom_of(net, costs)
    return None if bottom is None else round_at(net, bottom)


def cheaper(net, costs, above, below):
    """A round whose mean is less than above by below, None if there is none."""
    ask_costs(net, costs)
    if not is_whole(above):
        raise BadNumber(above)
    if not is_count(below):
        raise BadNumber(below)
    bottom = bottom_of(net, costs)
    if bottom is None or excess_of(bottom.cheap, costs, (above, below)) >= 0:
        return None
    told = round_at(net, bottom)
    return round_below(bottom, (above, below)) if told is None else told


def price(net, costs):
    """A price of the net whose fraction is cheapest, None if the net does not close."""
    bottom = bottom_of(net, costs)
    return None if bottom is None else (bottom.fraction, [bottom.slope_of(core) for core in bottom.cores])


def is_price(net, costs, thing):
    """Whether a thing is a price of the net."""
    ask_costs(net, costs)
    if not is_list(thing) or len(thing) != 2:
        return False
    fraction, triples = thing
    if not are_whole(fraction, 2) or fraction[1] < 1 or not is_list(triples):
        return False
    found = cores_in(pieces_of(net))
    if len(triples) != len(found):
        return False
    return all([is_slope(net.axes, core, triple) and min(margins(core, costs, fraction, triple)) >= 0
                for core, triple in zip(found, triples)])


def ask_costs(net, costs):
    """Raise BadCosts unless these are costs: a dict from names of ties to integers."""
    if not isinstance(costs, dict):
        raise BadCosts(None)
    for name in costs:
        if name not in net or not is_whole(costs[name]):
            raise BadCosts(name)


def bottom_of(net, costs):
    """The least mean of the net's balanced sums of one core, None if the net has no core."""
    ask_costs(net, costs)
    found = cores_in(pieces_of(net))
    return Bottom(found, costs) if found else None


def round_at(net, bottom):
    """A round with the least mean, None if there is none: just those of tight ties have it."""
    return round_of(net.only(bottom.tight_ties()))


def round_below(bottom, fraction):
    """A round whose mean is less than a fraction, which is above the least mean.

    All sums of the core together have each of its ties, and so they hang together, perhaps at too great a cost;
    the cheap sum is added so often that this is made up for.
    """
    told = {tie[0]: sum([counts.get(tie[0], 0) for counts in bottom.lead.sums]) for tie in bottom.lead.links}
    over = excess_of(told, bottom.costs, fraction)
    gain = -excess_of(bottom.cheap, bottom.costs, fraction)
    times = max(0, over // gain + 1)
    return {name: told[name] + times * bottom.cheap.get(name, 0) for name in told}


def is_slope(axes, core, thing):
    """Whether a thing is a triple of an integer from 1 on, a direction, and heights of a core's rooms."""
    if not is_list(thing) or len(thing) != 3:
        return False
    times, direction, heights = thing
    return is_count(times) and are_whole(direction, axes) and are_whole(heights, len(core.group))

"""Means of balanced sums: what their ties cost together by how many they are; and slopes by which none is less."""

from math import gcd

from repeatnets.slopes import rises_by


def excesses(ties, costs, fraction):
    """What each tie costs above a fraction (above, below), times below."""
    above, below = fraction
    return [below * costs.get(tie[0], 0) - above for tie in ties]


def excess_of(counts, costs, fraction):
    """What counts of ties cost above a fraction together, times below: less than 0 just if their mean is less."""
    above, below = fraction
    return sum([counts[name] * (below * costs.get(name, 0) - above) for name in counts])


def margins(core, costs, fraction, slope):
    """For each tie of a core its rise and so many times its excess together.

    If none is below 0, no balanced sum has a mean less than the fraction, as rises sum to nought along it; and
    those that have it as their mean are those of ties with a margin of 0.
    """
    times, direction, heights = slope
    rises = rises_by(core.group, core.links, direction, heights)
    return [times * excess + rise for excess, rise in zip(excesses(core.links, costs, fraction), rises)]


def mean_of(counts, costs):
    """The mean of a balanced sum, a pair (above, below) in lowest terms."""
    above = sum([counts[name] * costs.get(name, 0) for name in counts])
    below = sum(list(counts.values()))
    common = gcd(above, below)
    return above // common, below // common


class Bottom:
    """The least mean of all balanced sums of ties of one core, for cores, one or more.

    From a sum that is known a lesser one is sought, till no core has one.
    """

    def __init__(self, cores, costs):
        self.cores = cores
        self.costs = costs
        self.lead = cores[0]
        self.cheap = cores[0].sums[0]
        self.fraction = mean_of(self.cheap, costs)
        for core in cores:
            self.sink_in(core)

    def sink_in(self, core):
        """Go on to lesser means till no sum of this core has one."""
        counts, _ = self.lesser_in(core)
        while counts is not None:
            self.lead = core
            self.cheap = counts
            self.fraction = mean_of(counts, self.costs)
            counts, _ = self.lesser_in(core)

    def lesser_in(self, core):
        """A balanced sum of a core with a lesser mean, and None; or None and a slope that shows that there is none."""
        over = excesses(core.links, self.costs, self.fraction)
        return core.rings.seek({tie[0]: -excess for tie, excess in zip(core.links, over)})

    def slope_of(self, core):
        """A triple (times, direction, heights) by which the margins of a core's ties are not below 0."""
        _, slope = self.lesser_in(core)
        return slope

    def tight_ties(self):
        """The names of those ties of all cores of which sums have the least mean."""
        names = []
        for core in self.cores:
            over = margins(core, self.costs, self.fraction, self.slope_of(core))
            names.extend([tie[0] for tie, margin in zip(core.links, over) if margin == 0])
        return names

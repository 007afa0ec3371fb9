"""Least means by a plain search of the tests' own: all balanced sums with least sets of ties, within each core."""

import itertools
import math
from fractions import Fraction

from helpers import hangs
from repeatnets.levels import parts_of
from repeatnets.nets import Net


def cores_by_hand(parts, ties):
    """The cores among parts of some ties, as parts_of tells them, by [37]."""
    found = []
    for rooms, loose, within in parts:
        inner = [tie for tie in ties if tie[1] in rooms and tie[2] in rooms and tie[0] not in loose]
        found += cores_by_hand(within, inner) if loose else [(rooms, [tie[0] for tie in inner])]
    return found


def kernel(rows, many):
    """A list of fractions, not all 0, that solves all rows, if it is the only one but for multiples; else None."""
    table = [[Fraction(number) for number in row] for row in rows]
    leads = []
    for column in range(many):
        top = next((at for at in range(len(leads), len(table)) if table[at][column]), None)
        if top is None:
            continue
        table[len(leads)], table[top] = table[top], table[len(leads)]
        chosen = table[len(leads)]
        chosen[:] = [number / chosen[column] for number in chosen]
        for row in table:
            if row is not chosen and row[column]:
                row[:] = [number - row[column] * over for number, over in zip(row, chosen)]
        leads.append(column)
    free = [column for column in range(many) if column not in leads]
    if len(free) != 1:
        return None
    told = [Fraction(0)] * many
    told[free[0]] = Fraction(1)
    for row, lead in zip(table, leads):
        told[lead] = -row[free[0]]
    return told


def rays_by_search(raw):
    """All balanced sums, in lowest terms, whose sets of ties have no lesser balanced sum within."""
    axes, rooms, ties = raw
    for many in range(1, len(ties) + 1):
        for chosen in itertools.combinations(ties, many):
            rows = [[(tie[2] == room) - (tie[1] == room) for tie in chosen] for room in rooms]
            rows += [[tie[3][axis] for tie in chosen] for axis in range(axes)]
            told = kernel(rows, many)
            if told is not None and (all(number > 0 for number in told) or all(number < 0 for number in told)):
                told = [abs(number) for number in told]
                below = math.lcm(*[number.denominator for number in told])
                counts = [int(number * below) for number in told]
                common = math.gcd(*counts)
                yield {tie[0]: count // common for tie, count in zip(chosen, counts)}


def mean_of_counts(counts, costs):
    return Fraction(sum(counts[name] * costs.get(name, 0) for name in counts), sum(counts.values()))


def least_by_hand(raw, costs):
    """The least mean of balanced sums of ties of one core, and all rays that have it; (None, []) without a core."""
    axes, rooms, ties = raw
    rays = []
    for _, names in cores_by_hand(parts_of(Net(*raw)), ties):
        rays += rays_by_search((axes, rooms, [tie for tie in ties if tie[0] in names]))
    if not rays:
        return None, []
    least = min(mean_of_counts(counts, costs) for counts in rays)
    return least, [counts for counts in rays if mean_of_counts(counts, costs) == least]


def round_exists(raw, rays):
    """Whether the ties of some of these rays hang together: all that lie in one part of what they leave, and so on."""
    names = {name for counts in rays for name in counts}
    ties = [tie for tie in raw[2] if tie[0] in names]
    if not ties:
        return False
    if hangs(ties):
        return True
    for group in groups(ties):
        inner = [counts for counts in rays if set(counts) <= {tie[0] for tie in group}]
        if len(inner) < len(rays) and round_exists(raw, inner):
            return True
    return False


def groups(ties):
    """The ties that hang together, one group for each tie."""
    for tie in ties:
        yield [other for other in ties if hangs_with(ties, tie, other)]


def hangs_with(ties, tie, other):
    return tie is other or (other[1] in ahead(ties, tie[2]) and tie[1] in ahead(ties, other[2]))


def ahead(ties, start):
    found = {start}
    while True:
        more = {tie[2] for tie in ties if tie[1] in found} - found
        if not more:
            return found
        found |= more

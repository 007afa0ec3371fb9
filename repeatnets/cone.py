"""Counts from 0 on that solve equations whose right sides are nought: all by exact integers."""

from math import gcd


def shortened(numbers):
    """The list of integers, divided by what divides all of them."""
    common = 0
    for number in numbers:
        common = gcd(common, number)
    return [number // common for number in numbers] if common > 1 else list(numbers)


def cleared(rows):
    """The rows made such that each has a lead, a column with the scale in it and nought in all other rows.

    Returned are the scale, above 0, the leads and the rows that have one; the others are nought throughout.
    Dividing by the scale before keeps all numbers integers: they are determinants of some of the first rows.
    """
    table = [list(row) for row in rows]
    scale = 1
    leads = []
    kept = []
    for top in range(len(rows)):
        lead = first_filled(table[top])
        if lead is not None:
            if table[top][lead] < 0:
                table[top] = [-number for number in table[top]]
            table = with_lead(table, top, lead, scale)
            scale = table[top][lead]
            leads.append(lead)
            kept.append(top)
    return scale, leads, [table[top] for top in kept]


def first_filled(row):
    """The first column that is not nought in a row, None if there is none."""
    for column, number in enumerate(row):
        if number != 0:
            return column
    return None


def with_lead(rows, top, lead, scale):
    """The rows with the lead column taken out of all of them but the top one."""
    chosen = rows[top]
    pivot = chosen[lead]
    if pivot == scale:
        filled = [(column, over) for column, over in enumerate(chosen) if over != 0]
        others = [less(row, row[lead], filled, scale) for row in rows]
    else:
        others = [[(pivot * number - row[lead] * over) // scale for number, over in zip(row, chosen)] for row in rows]
    others[top] = chosen
    return others


def less(row, factor, filled, scale):
    """The row less some times another one, whose columns that are not nought are told: few in wide tables."""
    if factor == 0:
        return row
    numbers = list(row)
    for column, over in filled:
        numbers[column] -= factor * over // scale
    return numbers


class Cone:
    """All lists of counts from 0 on, one for each column, that solve the rows.

    Each row of the table settles one column by those that are free: the scale times the count of settled[i],
    and the sum of table[i][k] times the count of spare[k], are nought together. So that all counts are nought
    is a solution at each time, and a walk from table to table needs no start to be looked for.
    """

    def __init__(self, rows, many):
        scale, leads, solved = cleared(rows)
        self.scale = scale
        self.settled = leads
        self.spare = [column for column in range(many) if column not in leads]
        self.table = [[row[column] for column in self.spare] for row in solved]

    def seek(self, wanted):
        """Look for a solution in which one of the wanted columns, keys of a dict, has a count.

        Returned is a pair: such a solution, a dict from columns to counts from 1 on, and None; or None and
        the list of integers, one for each column, none below 0 and those of the wanted ones above 0, which
        some sum of multiples of the rows is: so no solution has a count at any of these.
        """
        column = self.entering(wanted)
        while column is not None:
            row = self.leaving(column)
            if row is None:
                return self.ray(column), None
            self.swap(row, column)
            column = self.entering(wanted)
        return None, self.bound(wanted)

    def slack(self, wanted):
        """For each free column what it takes from the sum of the wanted counts, times the scale."""
        rows = [row for column, row in zip(self.settled, self.table) if column in wanted]
        taken = [sum(numbers) for numbers in zip(*rows)] if rows else [0 for _ in self.spare]
        return [loss - self.scale * int(column in wanted) for column, loss in zip(self.spare, taken)]

    def entering(self, wanted):
        """Where the first column stands among the free ones by which the wanted counts grow, None if by none.

        The first one, here and in leaving, because then no table comes back (Bland's rule).
        """
        growing = [(column, at) for at, (column, loss) in enumerate(zip(self.spare, self.slack(wanted))) if loss < 0]
        return min(growing)[1] if growing else None

    def leaving(self, column):
        """The row of the first settled column that would fall below 0 if this free one grew, None if none would."""
        falling = [(name, at) for at, (name, row) in enumerate(zip(self.settled, self.table)) if row[column] > 0]
        return min(falling)[1] if falling else None

    def swap(self, at, column):
        """Settle a free column by a row, whose settled one is free then."""
        factors = [row[column] for row in self.table]
        rows = with_lead(self.table, at, column, self.scale)
        self.table = [row[:column] + [-factor] + row[column + 1:] if factor else row
                      for row, factor in zip(rows, factors)]
        self.table[at][column] = self.scale
        self.scale = factors[at]
        self.settled[at], self.spare[column] = self.spare[column], self.settled[at]

    def ray(self, column):
        """The solution in which of the free columns just this one has a count."""
        counts = shortened([self.scale] + [-row[column] for row in self.table])
        columns = [self.spare[column]] + self.settled
        return {name: count for name, count in zip(columns, counts) if count > 0}

    def bound(self, wanted):
        """The rises of all columns by which the wanted ones, none of which can grow, are nought."""
        rises = [self.scale * int(column in wanted) for column in range(len(self.settled) + len(self.spare))]
        for column, loss in zip(self.spare, self.slack(wanted)):
            rises[column] += loss
        return shortened(rises)

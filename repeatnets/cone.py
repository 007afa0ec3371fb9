"""Counts from 0 on that solve equations whose right sides are nought: all by exact integers."""

from math import gcd

from repeatnets.slopes import along


def shortened(numbers):
    """The list of integers, divided by what divides all of them."""
    common = 0
    for number in numbers:
        common = gcd(common, number)
    return [number // common for number in numbers] if common > 1 else list(numbers)


def cleared(rows):
    """The rows made such that each has a lead, a column with the scale in it and nought in all other rows.

    Returned are the scale, above 0, the leads and the rows that have one; the others are nought throughout.
    Dividing by the scale before keeps all numbers integers: they are determinants of some of the first rows.
    """
    table = [list(row) for row in rows]
    scale = 1
    leads = []
    kept = []
    for top in range(len(rows)):
        lead = first_filled(table[top])
        if lead is not None:
            if table[top][lead] < 0:
                table[top] = [-number for number in table[top]]
            table = with_lead(table, top, lead, scale)
            scale = table[top][lead]
            leads.append(lead)
            kept.append(top)
    return scale, leads, [table[top] for top in kept]


def first_filled(row):
    """The first column that is not nought in a row, None if there is none."""
    for column, number in enumerate(row):
        if number != 0:
            return column
    return None


def with_lead(rows, top, lead, scale):
    """The rows with the lead column taken out of all of them but the top one."""
    chosen = rows[top]
    pivot = chosen[lead]
    others = [[(pivot * number - row[lead] * over) // scale for number, over in zip(row, chosen)] for row in rows]
    others[top] = chosen
    return others


class Cone:
    """All lists of counts from 0 on, one for each column, that solve the rows.

    Each row of the table settles one column by those that are free: the scale times the count of settled[i],
    and the sum of table[i][k] times the count of spare[k], are nought together. So that all counts are nought
    is a solution at each time, and a walk from table to table needs no start to be looked for.
    """

    def __init__(self, rows, many):
        scale, leads, solved = cleared(rows)
        self.scale = scale
        self.settled = leads
        self.spare = [column for column in range(many) if column not in leads]
        self.table = [[row[column] for column in self.spare] for row in solved]

    def seek(self, worth):
        """Look for a solution whose counts, each times what its column is worth, sum to more than 0.

        worth is a list of integers, one for each column. Returned is a pair: such a solution, a dict from columns to
        counts from 1 on, and None; or None and a pair of an integer from 1 on, times, and the list of integers,
        none less than so many times the worth of its column, which some sum of multiples of the rows is: so no
        solution is worth more than 0.
        """
        column = self.entering(worth)
        while column is not None:
            row = self.leaving(column)
            if row is None:
                return self.ray(column), None
            self.swap(row, column)
            column = self.entering(worth)
        return None, self.bound(worth)

    def slack(self, worth):
        """For each free column what it takes from what the counts are worth together, times the scale."""
        weights = [worth[column] for column in self.settled]
        return [along(weights, [row[at] for row in self.table]) - self.scale * worth[column]
                for at, column in enumerate(self.spare)]

    def entering(self, worth):
        """Where the first column stands among the free ones by which the worth grows, None if by none.

        The first one, here and in leaving, because then no table comes back (Bland's rule).
        """
        growing = [(column, at) for at, (column, loss) in enumerate(zip(self.spare, self.slack(worth))) if loss < 0]
        return min(growing)[1] if growing else None

    def leaving(self, column):
        """The row of the first settled column that would fall below 0 if this free one grew, None if none would."""
        falling = [(name, at) for at, (name, row) in enumerate(zip(self.settled, self.table)) if row[column] > 0]
        return min(falling)[1] if falling else None

    def swap(self, at, column):
        """Settle a free column by a row, whose settled one is free then."""
        factors = [row[column] for row in self.table]
        rows = with_lead(self.table, at, column, self.scale)
        self.table = [row[:column] + [-factor] + row[column + 1:] for row, factor in zip(rows, factors)]
        self.table[at][column] = self.scale
        self.scale = factors[at]
        self.settled[at], self.spare[column] = self.spare[column], self.settled[at]

    def ray(self, column):
        """The solution in which of the free columns just this one has a count."""
        counts = shortened([self.scale] + [-row[column] for row in self.table])
        columns = [self.spare[column]] + self.settled
        return {name: count for name, count in zip(columns, counts) if count > 0}

    def bound(self, worth):
        """The scale and the rises of all columns by which no count makes the worth greater, shortened together."""
        rises = [self.scale * number for number in worth]
        for column, loss in zip(self.spare, self.slack(worth)):
            rises[column] += loss
        numbers = shortened([self.scale] + rises)
        return numbers[0], numbers[1:]

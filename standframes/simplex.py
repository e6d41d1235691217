"""The search for values with signs, and of least cost, in a table of integers.

An unknown of the sign -1 is replaced by its opposite, so that each unknown is free or not negative. Each row of the
table has an item for each unknown and ends with its right side. The unknown that a row is solved for, its base, has a
positive item in it and zero in every other row; all the others are zero at the moment. A row without a base stands for
an unknown of its own, its gap, which has to become zero.
"""

from standframes.elimination import cleared, shortened, whole_row
from standframes.exact import NOUGHT, lowest, number_sign


class Table:
    """The rows, their bases, and the goal: the row of what is to be made small."""

    def __init__(self, rows, right, signs):
        self.signs = signs
        self.width = len(signs)
        self.grid = [self.turned(whole_row([*row, due])) for row, due in zip(rows, right)]
        self.bases = [None for _ in rows]
        self.goal = []

    def turned(self, row):
        """The row for the opposites of the unknowns of the sign -1."""
        return [-item if way < 0 else item for item, way in zip(row, self.signs)] + row[self.width:]

    def pivot(self, at, column):
        """Makes the unknown of the column the base of the row."""
        chosen = self.grid[at]
        if chosen[column] < 0:
            chosen = [-item for item in chosen]
        self.grid = [chosen if k == at else cleared(row, chosen, column) for k, row in enumerate(self.grid)]
        if self.goal:
            self.goal = cleared(self.goal, chosen, column)
        self.bases[at] = column

    def unbased(self):
        return [at for at, base in enumerate(self.bases) if base is None]

    def current(self):
        """The value of each unknown at the moment."""
        result = [NOUGHT for _ in self.signs]
        for row, base in zip(self.grid, self.bases):
            if base is not None:
                result[base] = self.signed(base, lowest(row[self.width], row[base]))
        return result

    def ray(self, column):
        """The changes of all unknowns when the one of the column goes the way that the goal asks for."""
        step = -number_sign(self.goal[column])
        result = [NOUGHT for _ in self.signs]
        result[column] = self.signed(column, (step, 1))
        for row, base in zip(self.grid, self.bases):
            if base is not None:
                result[base] = self.signed(base, lowest(-step * row[column], row[base]))
        return result

    def signed(self, column, value):
        return (-value[0], value[1]) if self.signs[column] < 0 else value


def _entering(table, careful):
    """The unknown, not free, that makes the goal smaller by growing, or None."""
    best = None
    for column in range(table.width):
        item = table.goal[column]
        if table.signs[column] != 0 and item < 0 and (best is None or item < table.goal[best]):
            best = column
            if careful:
                return best
    return best


def _leaving(table, column):
    """The index of the row whose base, or gap, is the first to become zero when the unknown grows, or None."""
    best = None
    for at, row in enumerate(table.grid):
        base = table.bases[at]
        if row[column] > 0 and (base is None or table.signs[base] != 0):
            if best is None or _stops_before(table, column, at, best):
                best = at
    return best


def _stops_before(table, column, at, best):
    row = table.grid[at]
    held = table.grid[best]
    left = row[-1] * held[column]
    right = held[-1] * row[column]
    if left != right:
        return left < right
    if table.bases[best] is None:
        return False
    return table.bases[at] is None or table.bases[at] < table.bases[best]


def descend(table):
    """Makes the goal as small as it gets. Returns an unknown that may grow without end, otherwise None."""
    careful = False
    column = _entering(table, careful)
    while column is not None:
        at = _leaving(table, column)
        if at is None:
            return column
        # After a step that gained nothing the first column that fits is taken: this rule never goes in a circle.
        careful = table.grid[at][-1] == 0
        table.pivot(at, column)
        column = _entering(table, careful)
    return None


def _base_free_unknowns(table):
    """Free unknowns become bases first, and stay. Those that cannot are zero in every row without a free base."""
    for column in range(table.width):
        if table.signs[column] == 0:
            fitting = [at for at in table.unbased() if table.grid[at][column] != 0]
            if fitting:
                table.pivot(fitting[0], column)


def _base_empty_rows(table):
    """Gives the rows with a gap of zero a base, and takes out those that say nothing."""
    empty = table.unbased()
    for at in empty:
        fitting = [column for column in range(table.width) if table.grid[at][column] != 0]
        if fitting:
            table.pivot(at, fitting[0])
    kept = [at for at, base in enumerate(table.bases) if base is not None]
    table.grid = [table.grid[at] for at in kept]
    table.bases = [table.bases[at] for at in kept]


def find_start(table):
    """Makes the values of the table fit. Returns None, or if there are none, what all gaps together depend on.

    This is a sum of multiples of the rows of the system, in the table's unknowns: no item of it is negative where an
    unknown is not free, each is zero where it is, and the last one, the right side, is negative.
    """
    _base_free_unknowns(table)
    gaps = table.unbased()
    for at in gaps:
        if table.grid[at][-1] < 0:
            table.grid[at] = [-item for item in table.grid[at]]
    lost = [table.grid[at] for at in gaps]
    table.goal = shortened([-sum([row[k] for row in lost]) for k in range(table.width + 1)])
    descend(table)
    if table.goal[-1] != 0:
        return table.goal
    table.goal = []
    _base_empty_rows(table)
    return None


def find_least(table, costs):
    """Makes the cost as small as it gets, after find_start. Returns an unknown that may change without end, or None."""
    goal = table.turned(whole_row([*costs, NOUGHT]))
    for row, base in zip(table.grid, table.bases):
        goal = cleared(goal, row, base)
    table.goal = goal
    for column in range(table.width):
        if table.signs[column] == 0 and goal[column] != 0:
            return column
    return descend(table)

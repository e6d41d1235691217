"""Systems of linear equations, solved with integers.

A row of integers stands for a row of ratios times a number that is not zero, which changes no solution. Its items
have no common divisor: so they do not grow more than they must.
"""

from math import gcd, lcm

from standframes.exact import NOUGHT, UNIT, lowest, opposite, plus


def shortened(row):
    """The row of integers divided by the greatest common divisor of its items."""
    shared = 0
    for item in row:
        shared = gcd(shared, item)
        if shared == 1:
            return row
    if shared == 0:
        return row
    return [item // shared for item in row]


def whole_row(row):
    """Integers in the proportions of the ratios of the row, with the same signs."""
    common = 1
    for item in row:
        common = lcm(common, item[1])
    return shortened([item[0] * (common // item[1]) for item in row])


def cleared(row, chosen, column):
    """The row plus a multiple of the chosen row that makes its item in the column 0.

    The row itself is multiplied by a positive number if the chosen row has a positive item there.
    """
    item = row[column]
    if item == 0:
        return row
    shared = gcd(item, chosen[column])
    keep = chosen[column] // shared
    take = item // shared
    return shortened([keep * x - take * y for x, y in zip(row, chosen)])


def _smallest_at(rows, column):
    """The index of a row with the item nearest to 0 in the column that is not 0, or None."""
    best = None
    for at, row in enumerate(rows):
        if row[column] != 0 and (best is None or abs(row[column]) < abs(rows[best][column])):
            best = at
    return best


def echelon(rows, width):
    """The pivots of rows of integers, and the rows that are left.

    The pivots are pairs of a column, in ascending order, and a row with zeros before it. The rows that are left have
    zeros in the first `width` columns.
    """
    rest = [shortened(row) for row in rows]
    steps = []
    for column in range(width):
        at = _smallest_at(rest, column)
        if at is not None:
            chosen = rest[at]
            steps.append((column, chosen))
            rest = [cleared(row, chosen, column) for k, row in enumerate(rest) if k != at]
    return steps, rest


def _filled(steps, start):
    """The values of start, with those at the pivots found so that their sum of products with each row is zero."""
    values = list(start)
    for column, row in reversed(steps):
        rest = NOUGHT
        for k in range(column + 1, len(row)):
            if row[k] != 0 and values[k][0] != 0:
                rest = plus(rest, (row[k] * values[k][0], values[k][1]))
        values[column] = lowest(-rest[0], rest[1] * row[column])
    return values


def plain_solution(rows, right, width):
    """The solution with zero at each free unknown, or None. The rows are lists of ratios."""
    steps, rest = echelon([whole_row([*row, due]) for row, due in zip(rows, right)], width)
    if any([row[width] != 0 for row in rest]):
        return None
    # Each row ends with its right side, which therefore counts as an unknown of value -1.
    start = [NOUGHT for _ in range(width)] + [opposite(UNIT)]
    return _filled(steps, start)[:width]


def refusal(rows, right, width):
    """The weights of some refusal of a system without solutions: their sum of products with right is 1."""
    columns = [[row[k] for row in rows] for k in range(width)]
    due = [NOUGHT for _ in range(width)]
    return plain_solution([*columns, right], [*due, UNIT], len(rows))


def pivot_columns(rows, width):
    """The indexes of the pivots of rows of ratios, in ascending order."""
    steps, _ = echelon([whole_row(row) for row in rows], width)
    return [column for column, _ in steps]


def null_values(rows, width):
    """For each free unknown in ascending order, the solution for zeros that has 1 there and 0 at the other ones."""
    steps, _ = echelon([whole_row(row) for row in rows], width)
    taken = {column: True for column, _ in steps}
    free = [k for k in range(width) if k not in taken]
    # What depends on a free unknown stands before it, so later pivots need no look.
    return [
        _filled([step for step in steps if step[0] < k], [UNIT if at == k else NOUGHT for at in range(width)])
        for k in free
    ]

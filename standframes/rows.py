"""Systems of linear equations over ratios."""

from standframes.elimination import null_values, pivot_columns, plain_solution, refusal
from standframes.errors import OutOfBounds, WrongKind
from standframes.exact import products
from standframes.ratios import is_integer, is_ratio_list, need_ratio_list

MOST_ROWS = 120


def need_rows(rows):
    if not isinstance(rows, list) or not all([is_ratio_list(row) for row in rows]):
        raise WrongKind("rows")


def bound_rows(rows, width):
    if len(rows) > MOST_ROWS or any([len(row) != width for row in rows]):
        raise OutOfBounds("rows")


def bound_right(rows, right):
    if len(right) != len(rows):
        raise OutOfBounds("right")


def _need_width(width):
    if not is_integer(width):
        raise WrongKind("width")


def _bound_width(width):
    if not 0 <= width <= MOST_ROWS:
        raise OutOfBounds("width")


def _check_rows(rows, width):
    need_rows(rows)
    _need_width(width)
    bound_rows(rows, width)
    _bound_width(width)


def _check_system(rows, right, width):
    need_rows(rows)
    need_ratio_list(right, "right")
    _need_width(width)
    bound_rows(rows, width)
    bound_right(rows, right)
    _bound_width(width)


def dot(one, other):
    """The sum of the products of two lists of ratios."""
    need_ratio_list(one, "one")
    need_ratio_list(other, "other")
    if len(one) != len(other):
        raise OutOfBounds("other")
    return products(one, other)


def pivots(rows, *, width):
    """The indexes of the pivots, in ascending order."""
    _check_rows(rows, width)
    return pivot_columns(rows, width)


def null_solutions(rows, *, width):
    """The null solutions, one for each free unknown in ascending order."""
    _check_rows(rows, width)
    return null_values(rows, width)


def solve(rows, right, *, width):
    """("solution", values) with the plain solution, or ("none", weights) with some refusal."""
    _check_system(rows, right, width)
    values = plain_solution(rows, right, width)
    if values is None:
        return ("none", refusal(rows, right, width))
    return ("solution", values)


def is_values(value, size):
    """True if the value is a list of this many ratios."""
    return is_ratio_list(value) and len(value) == size


def solves(rows, right, values):
    """True if the values solve the system."""
    return all([products(row, values) == due for row, due in zip(rows, right)])


def column_products(rows, weights, width):
    """The sums of the products of the weights with each column."""
    return [products([row[k] for row in rows], weights) for k in range(width)]


def _refuses(rows, right, weights, width):
    sums = column_products(rows, weights, width)
    return all([one[0] == 0 for one in sums]) and products(right, weights)[0] != 0


def is_solve(rows, right, answer, *, width):
    """True if the answer is right: any values that solve are, and any refusal."""
    _check_system(rows, right, width)
    if not isinstance(answer, tuple) or len(answer) != 2:
        return False
    word, values = answer
    if word == "solution":
        return is_values(values, width) and solves(rows, right, values)
    if word == "none":
        return is_values(values, len(rows)) and _refuses(rows, right, values, width)
    return False

"""Systems of linear equations whose unknowns have signs and costs."""

from standframes.elimination import plain_solution
from standframes.errors import OutOfBounds, WrongKind
from standframes.exact import minus, products, sign_of
from standframes.ratios import is_integer, need_ratio_list
from standframes.rows import MOST_ROWS, bound_right, bound_rows, column_products, is_values, need_rows, solves
from standframes.simplex import Table, find_least, find_start


def _need_signs(signs):
    if not isinstance(signs, list):
        raise WrongKind("signs")
    if not all([is_integer(way) and -1 <= way <= 1 for way in signs]):
        raise WrongKind("signs")


def _check_costs(rows, right, costs, signs):
    need_rows(rows)
    need_ratio_list(right, "right")
    need_ratio_list(costs, "costs")
    if signs is not None:
        _need_signs(signs)
    bound_rows(rows, len(costs))
    bound_right(rows, right)
    if len(costs) > MOST_ROWS:
        raise OutOfBounds("costs")
    if signs is not None and len(signs) != len(costs):
        raise OutOfBounds("signs")


def _check_signs(rows, right, signs):
    need_rows(rows)
    need_ratio_list(right, "right")
    _need_signs(signs)
    bound_rows(rows, len(signs))
    bound_right(rows, right)
    if len(signs) > MOST_ROWS:
        raise OutOfBounds("signs")


def _ways(costs, signs):
    return [1 for _ in costs] if signs is None else list(signs)


def _weights(rows, right, ways, gap):
    """The multiples of the rows that make up what find_start has returned, as the weights of a refusal."""
    columns = [[row[k] for row in rows] for k in range(len(ways))]
    due = [(item if way < 0 else -item, 1) for item, way in zip(gap, ways)]
    return plain_solution([*columns, right], [*due, (-gap[-1], 1)], len(rows))


def _prices(rows, costs, table):
    """Prices under which the reduced cost of each base is zero.

    Every other column is a sum of multiples of those of the bases. So its reduced cost is that of the table, whichever
    of these prices are taken.
    """
    columns = [[row[base] for row in rows] for base in table.bases]
    return plain_solution(columns, [costs[base] for base in table.bases], len(rows))


def least_values(rows, right, costs, ways):
    """What `least` returns, with one sign for each unknown."""
    table = Table(rows, right, ways)
    gap = find_start(table)
    if gap is not None:
        return ("none", _weights(rows, right, ways, gap))
    column = find_least(table, costs)
    if column is not None:
        return ("endless", table.current(), table.ray(column))
    return ("least", table.current(), _prices(rows, costs, table))


def signed_values(rows, right, ways):
    """What `signed_solve` returns."""
    table = Table(rows, right, ways)
    gap = find_start(table)
    if gap is not None:
        return ("none", _weights(rows, right, ways, gap))
    return ("solution", table.current())


def least(rows, right, costs, *, signs=None):
    """("least", values, prices), ("none", weights) or ("endless", values, ray)."""
    _check_costs(rows, right, costs, signs)
    return least_values(rows, right, costs, _ways(costs, signs))


def signed_solve(rows, right, *, signs):
    """("solution", values) or ("none", weights)."""
    _check_signs(rows, right, signs)
    return signed_values(rows, right, list(signs))


def _fits(values, ways):
    """True if no value with the sign 1 is negative and no value with the sign -1 is positive."""
    return all([sign_of(value) * way >= 0 for value, way in zip(values, ways)])


def _fits_dual(values, ways):
    """True if the values fit the signs and are zero where the sign is 0."""
    return _fits(values, ways) and all([value[0] == 0 for value, way in zip(values, ways) if way == 0])


def _is_start(rows, right, ways, values):
    return is_values(values, len(ways)) and _fits(values, ways) and solves(rows, right, values)


def _is_refusal(rows, right, ways, weights):
    if not is_values(weights, len(rows)):
        return False
    sums = column_products(rows, weights, len(ways))
    return _fits_dual([(-one[0], one[1]) for one in sums], ways) and products(right, weights)[0] > 0


def _is_priced(rows, right, costs, ways, values, prices):
    if not is_values(prices, len(rows)):
        return False
    paid = column_products(rows, prices, len(ways))
    reduced = [minus(cost, part) for cost, part in zip(costs, paid)]
    return _fits_dual(reduced, ways) and products(prices, right) == products(costs, values)


def _is_ray(rows, costs, ways, ray):
    return _is_start(rows, [(0, 1) for _ in rows], ways, ray) and products(costs, ray)[0] < 0


def is_least(rows, right, costs, answer, *, signs=None):
    """True if the answer is a right one of `least`."""
    _check_costs(rows, right, costs, signs)
    ways = _ways(costs, signs)
    if not isinstance(answer, tuple) or len(answer) not in (2, 3):
        return False
    word = answer[0]
    if len(answer) == 2:
        return word == "none" and _is_refusal(rows, right, ways, answer[1])
    if word not in ("least", "endless") or not _is_start(rows, right, ways, answer[1]):
        return False
    if word == "least":
        return _is_priced(rows, right, costs, ways, answer[1], answer[2])
    return _is_ray(rows, costs, ways, answer[2])


def is_signed_solve(rows, right, answer, *, signs):
    """True if the answer is a right one of `signed_solve`."""
    _check_signs(rows, right, signs)
    if not isinstance(answer, tuple) or len(answer) != 2:
        return False
    if answer[0] == "solution":
        return _is_start(rows, right, signs, answer[1])
    return answer[0] == "none" and _is_refusal(rows, right, signs, answer[1])

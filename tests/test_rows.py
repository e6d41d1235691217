import copy
import random
import unittest
from fractions import Fraction

from helpers import HUGE, NO_RATIOS, check_error, check_fresh, fraction, grid, q, qs
from standframes.errors import OutOfBounds, WrongKind
from standframes.ratios import is_ratio, negate
from standframes.rows import dot, is_solve, null_solutions, pivots, solve


def rank(rows):
    """The rank of rows of fractions, found in another way than the program's."""
    rest = [list(row) for row in rows]
    result = 0
    while rest:
        row = rest.pop()
        at = next((k for k, item in enumerate(row) if item != 0), None)
        if at is not None:
            result += 1
            rest = [[x - y * other[at] / row[at] for x, y in zip(other, row)] for other in rest]
    return result


def free_unknowns(rows, width):
    """By the words of the document: the column is a sum of multiples of the columns before it."""
    numbers = [[fraction(item) for item in row] for row in rows]
    return [
        k for k in range(width)
        if rank([row[:k + 1] for row in numbers]) == rank([row[:k] for row in numbers])
    ]


def sums(rows, values):
    return [sum((fraction(x) * fraction(y) for x, y in zip(row, values)), Fraction(0)) for row in rows]


def systems():
    """Many small systems: some of full rank, some not, with zero rows and columns and sums of rows."""
    source = random.Random(11)
    for turn in range(250):
        height, width = source.randint(0, 6), source.randint(0, 6)
        rows = [
            [q(source.randint(-3, 3), source.randint(1, 3)) if source.random() < 0.6 else q(0) for _ in range(width)]
            for _ in range(height)
        ]
        if height > 2:
            rows[2] = [q(fraction(x) - 2 * fraction(y)) for x, y in zip(rows[0], rows[1])]
        values = [q(source.randint(-3, 3), source.randint(1, 2)) for _ in range(width)]
        right = [q(one) for one in sums(rows, values)]
        if turn % 3 == 0:
            right = [q(source.randint(-2, 2)) for _ in rows]
        yield rows, right, width


class TestDot(unittest.TestCase):
    def test_values(self):
        self.assertEqual(dot([], []), (0, 1))
        self.assertEqual(dot(qs(1, 2, 3), qs(4, 5, 6)), (32, 1))
        self.assertEqual(dot([q(1, 2), q(1, 3)], [q(1, 3), q(-1, 2)]), (0, 1))
        self.assertEqual(dot([q(HUGE)], [q(1, HUGE)]), (1, 1))
        self.assertEqual(dot(qs(*range(500)), qs(*range(500))), q(sum(k * k for k in range(500))))

    def test_errors(self):
        for value in [None, q(1), tuple(qs(1, 2)), 5, "ab"] + [[one] for one in NO_RATIOS]:
            check_error(self, WrongKind, {"argument": "one"}, dot, value, qs(1))
            check_error(self, WrongKind, {"argument": "one"}, dot, value, value)
            check_error(self, WrongKind, {"argument": "other"}, dot, qs(1, 2), value)
        check_error(self, OutOfBounds, {"argument": "other"}, dot, qs(1), [])
        check_error(self, OutOfBounds, {"argument": "other"}, dot, [], qs(1))
        check_error(self, OutOfBounds, {"argument": "other"}, dot, qs(1, 2), qs(1, 2, 3))


class TestPivotsAndNullSolutions(unittest.TestCase):
    def test_small(self):
        self.assertEqual(pivots([], width=0), [])
        self.assertEqual(pivots([], width=3), [])
        self.assertEqual(pivots([[], []], width=0), [])
        self.assertEqual(pivots(grid([0, 2, 4], [0, 1, 2], [0, 0, 0]), width=3), [1])
        self.assertEqual(pivots(grid([0, 1], [1, 0]), width=2), [0, 1])
        self.assertEqual(null_solutions([], width=0), [])
        self.assertEqual(null_solutions([[]], width=0), [])
        self.assertEqual(null_solutions([], width=2), [qs(1, 0), qs(0, 1)])
        self.assertEqual(null_solutions(grid([0, 2, 4]), width=3), [qs(1, 0, 0), qs(0, -2, 1)])
        self.assertEqual(null_solutions(grid([3, 0, 1]), width=3), [qs(0, 1, 0), [q(-1, 3), q(0), q(1)]])
        self.assertEqual(null_solutions(grid([1, 0], [0, 1]), width=2), [])

    def test_many(self):
        for rows, _, width in systems():
            free = free_unknowns(rows, width)
            self.assertEqual(pivots(rows, width=width), [k for k in range(width) if k not in free])
            found = null_solutions(rows, width=width)
            self.assertEqual(len(found), len(free))
            for at, values in zip(free, found):
                self.assertEqual([values[k] for k in free], [q(k == at) for k in free])
                self.assertTrue(all(is_ratio(one) for one in values))
                self.assertEqual(len(values), width)
                self.assertFalse(any(sums(rows, values)))


class TestSolve(unittest.TestCase):
    def test_small(self):
        self.assertEqual(solve(grid([1, 2], [1, 2]), qs(3, 3), width=2), ("solution", qs(3, 0)))
        self.assertEqual(solve([], [], width=0), ("solution", []))
        self.assertEqual(solve([], [], width=2), ("solution", qs(0, 0)))
        self.assertEqual(solve([[], []], qs(0, 0), width=0), ("solution", []))
        self.assertEqual(solve(grid([0, 0, 5]), qs(1), width=3), ("solution", [q(0), q(0), q(1, 5)]))
        self.assertEqual(solve(grid([0], [2]), qs(0, 3), width=1), ("solution", [q(3, 2)]))

    def test_refusals(self):
        for rows, right, width in [
            ([[]], qs(1), 0), ([[], []], qs(0, 2), 0), (grid([0, 0]), qs(3), 2),
            (grid([1, 2], [1, 2]), qs(3, 4), 2), (grid([1, 2], [3, 4], [4, 6]), qs(1, 1, 1), 2),
        ]:
            answer = solve(rows, right, width=width)
            self.assertEqual(answer[0], "none")
            self.assertIs(is_solve(rows, right, answer, width=width), True)

    def test_many(self):
        words = {"solution": 0, "none": 0}
        for rows, right, width in systems():
            before = copy.deepcopy((rows, right))
            answer = solve(rows, right, width=width)
            self.assertEqual((rows, right), before)
            words[answer[0]] += 1
            self.assertEqual(len(answer), 2)
            self.assertIs(is_solve(rows, right, answer, width=width), True)
            self.assertTrue(all(is_ratio(one) for one in answer[1]))
            if answer[0] == "solution":
                self.assertEqual(sums(rows, answer[1]), [fraction(one) for one in right])
                self.assertEqual(len(answer[1]), width)
                self.assertTrue(all(answer[1][k] == (0, 1) for k in free_unknowns(rows, width)))
            else:
                self.assertEqual(len(answer[1]), len(rows))
                columns = [[row[k] for row in rows] for k in range(width)]
                self.assertFalse(any(sums(columns, answer[1])))
                self.assertNotEqual(sums([right], answer[1]), [0])
        self.assertTrue(min(words.values()) > 20)

    def test_long_numbers(self):
        rows = [[q(HUGE, 3), q(1, HUGE)], [q(-1), q(HUGE)]]
        values = [q(5, HUGE), q(-HUGE, 7)]
        right = [dot(row, values) for row in rows]
        self.assertEqual(solve(rows, right, width=2), ("solution", values))

    def test_120_rows_and_unknowns(self):
        source = random.Random(3)
        size = 120
        rows = [qs(*[source.randint(-9, 9) for _ in range(size)]) for _ in range(size)]
        values = qs(*[source.randint(-9, 9) for _ in range(size)])
        right = [dot(row, values) for row in rows]
        self.assertEqual(solve(rows, right, width=size), ("solution", values))
        self.assertEqual(pivots(rows, width=size), list(range(size)))
        self.assertEqual(null_solutions(rows, width=size), [])
        rows[119] = [q(fraction(x) + fraction(y)) for x, y in zip(rows[3], rows[60])]
        self.assertEqual(pivots(rows, width=size), list(range(size - 1)))
        answer = solve(rows, right, width=size)
        self.assertIs(is_solve(rows, right, answer, width=size), True)
        self.assertEqual(answer[0], "none")


class TestJudge(unittest.TestCase):
    ROWS = grid([1, 2, 0], [0, 0, 0], [2, 4, 0])

    def judge(self, right, answer):
        return is_solve(self.ROWS, right, answer, width=3)

    def test_every_solution(self):
        for values in [qs(3, 0, 0), qs(1, 1, 0), [q(1), q(1), q(-7, 3)], [q(0), q(3, 2), q(1)]]:
            self.assertIs(self.judge(qs(3, 0, 6), ("solution", values)), True)
        for values in [qs(3, 1, 0), qs(0, 0, 0), qs(3, 0), qs(3, 0, 0, 0), []]:
            self.assertIs(self.judge(qs(3, 0, 6), ("solution", values)), False)

    def test_every_refusal(self):
        for weights in [qs(0, 1, 0), qs(-2, 0, 1), qs(2, 5, -1), [q(-2), q(-1, 3), q(1)]]:
            self.assertIs(self.judge(qs(3, 1, 7), ("none", weights)), True)
            self.assertIs(self.judge(qs(3, 1, 7), ("solution", weights)), False)
        # The last one adds the right sides up to zero.
        for weights in [qs(0, 0, 0), qs(1, 1, 0), qs(0, 1), qs(0, 1, 0, 0), [], qs(-2, -1, 1)]:
            self.assertIs(self.judge(qs(3, 1, 7), ("none", weights)), False)
        for word in ("None", "", "weights", None, True, ["none"], ("none",)):
            self.assertIs(self.judge(qs(3, 1, 7), (word, qs(0, 1, 0))), False)
        self.assertIs(self.judge(qs(3, 0, 6), ("none", qs(0, 1, 0))), False)
        self.assertIs(self.judge(qs(3, 0, 6), ("none", qs(-2, 0, 1))), False)

    def test_other_values(self):
        good = qs(3, 0, 0)
        right = qs(3, 0, 6)
        self.assertIs(self.judge(right, ("solution", good)), True)
        for answer in [
            None, True, 3, "solution", (), ("solution",), ["solution", good], ("solution", good, []),
            ("solution", tuple(good)), ("Solution", good), ("none", good), (True, good), (None, good),
            (["solution"], good),
            ("solution", None), ("solution", (good,)), ("solution", [good]), {"solution": good}, (good, "solution"),
            ("solution", q(3)), ("endless", good), ("refused", qs(0, 0, 0)), (OutOfBounds("x"), good), WrongKind("x"),
            ("solution", {}),
        ]:
            self.assertIs(self.judge(right, answer), False)
        for value in NO_RATIOS:
            self.assertIs(self.judge(right, ("solution", [q(3), q(0), value])), False)
            self.assertIs(self.judge(right, ("none", [q(3), q(0), value])), False)

    def test_no_rows_and_no_unknowns(self):
        self.assertIs(is_solve([], [], ("solution", []), width=0), True)
        self.assertIs(is_solve([], [], ("none", []), width=0), False)
        self.assertIs(is_solve([[]], qs(2), ("none", qs(-5)), width=0), True)
        self.assertIs(is_solve([[]], qs(2), ("solution", []), width=0), False)
        self.assertIs(is_solve([], [], ("solution", qs(4)), width=1), True)


class TestErrors(unittest.TestCase):
    def calls(self):
        """Each function as a call of rows, right and width."""
        return [
            lambda rows, right, width: solve(rows, right, width=width),
            lambda rows, right, width: is_solve(rows, right, None, width=width),
            lambda rows, right, width: is_solve(width=width, answer=3, right=right, rows=rows),
        ]

    def short_calls(self):
        """Those that have no right side."""
        return [
            lambda rows, width: pivots(rows, width=width), lambda rows, width: null_solutions(rows, width=width),
        ]

    def test_wrong_kinds(self):
        no_rows = [None, (), tuple(grid([1])), [q(1)], [tuple(qs(1))], [[1]], [None], "ab", True, {}, [qs(1), [(2, 2)]]]
        no_lists = [None, q(1), tuple(qs(1)), [1], [[q(1)]], [True], "a", 0]
        no_widths = [None, True, False, "1", q(1), [1]]
        for call in self.calls():
            for rows in no_rows:
                check_error(self, WrongKind, {"argument": "rows"}, call, rows, None, None)
                check_error(self, WrongKind, {"argument": "rows"}, call, rows, qs(1), 1)
            for right in no_lists:
                check_error(self, WrongKind, {"argument": "right"}, call, grid([1]), right, None)
                check_error(self, WrongKind, {"argument": "right"}, call, grid([1]), right, 5)
            for width in no_widths:
                check_error(self, WrongKind, {"argument": "width"}, call, grid([1, 2], [3]), [], width)
        for call in self.short_calls():
            for rows in no_rows:
                check_error(self, WrongKind, {"argument": "rows"}, call, rows, None)
            for width in no_widths:
                check_error(self, WrongKind, {"argument": "width"}, call, grid([1], [2, 3]), width)

    def test_bounds(self):
        for call in self.calls():
            check_error(self, OutOfBounds, {"argument": "rows"}, call, grid([1, 2], [3]), [], -1)
            check_error(self, OutOfBounds, {"argument": "rows"}, call, grid([1, 2]), [], 3)
            check_error(self, OutOfBounds, {"argument": "rows"}, call, [[]] * 121, [], 0)
            check_error(self, OutOfBounds, {"argument": "rows"}, call, [[]], qs(1), -1)
            check_error(self, OutOfBounds, {"argument": "right"}, call, grid([1]), [], 1)
            check_error(self, OutOfBounds, {"argument": "right"}, call, grid([1]), qs(1, 2), 1)
            check_error(self, OutOfBounds, {"argument": "right"}, call, [], qs(1), -1)
            check_error(self, OutOfBounds, {"argument": "right"}, call, [qs(*range(121))], [], 121)
            check_error(self, OutOfBounds, {"argument": "width"}, call, [], [], -1)
            check_error(self, OutOfBounds, {"argument": "width"}, call, [], [], 121)
            check_error(self, OutOfBounds, {"argument": "width"}, call, [qs(*range(121))], qs(1), 121)
        for call in self.short_calls():
            check_error(self, OutOfBounds, {"argument": "rows"}, call, grid([1, 2], [3]), -1)
            check_error(self, OutOfBounds, {"argument": "rows"}, call, [[]] * 121, 0)
            check_error(self, OutOfBounds, {"argument": "width"}, call, [], -1)
            check_error(self, OutOfBounds, {"argument": "width"}, call, [], 121)
            check_error(self, OutOfBounds, {"argument": "width"}, call, [qs(*range(121))], 121)

    def test_just_inside(self):
        self.assertEqual(solve([], [], width=120)[1], qs(*[0] * 120))
        self.assertEqual(solve([[]] * 120, qs(*[0] * 120), width=0), ("solution", []))
        self.assertEqual(len(null_solutions([], width=120)), 120)
        self.assertEqual(pivots([qs(*[0] * 120)] * 120, width=120), [])


class TestCopies(unittest.TestCase):
    def test_fresh(self):
        rows = grid([1, 2, 0, 1], [0, 0, 1, 0])
        check_fresh(self, lambda: null_solutions(rows, width=4))
        check_fresh(self, lambda: solve(rows, qs(1, 2), width=4))
        check_fresh(self, lambda: solve(grid([1], [1]), qs(1, 2), width=1))
        check_fresh(self, lambda: pivots(rows, width=4))

    def test_arguments_stay(self):
        rows = [[q(4), negate(q(2))], [q(0), q(0)]]
        right = qs(2, 1)
        answer = solve(rows, right, width=2)
        is_solve(rows, right, answer, width=2)
        null_solutions(rows, width=2)
        pivots(rows, width=2)
        self.assertEqual((rows, right), ([[q(4), q(-2)], [q(0), q(0)]], qs(2, 1)))

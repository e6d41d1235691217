import random
import unittest
from math import gcd

from helpers import HUGE, NO_RATIOS, check_error, check_fresh, q, triangle
from standframes.errors import BadText, OutOfBounds, WrongKind
from standframes.words import read_ratio, split_row, write_ratio

NO_TEXTS = [None, True, 1, ["1"], ("1",), {}, q(1), triangle(), [], ()]


class TestWriteRatio(unittest.TestCase):
    def test_small(self):
        for one, due in [
            (q(0), "0"), (q(-3), "-3"), (q(7, 12), "7/12"), (q(-7, 12), "-7/12"), (q(1), "1"), (q(10), "10"),
            (q(1, 2), "1/2"), (q(-1, 100), "-1/100"), (q(120, 7), "120/7"),
        ]:
            self.assertEqual(write_ratio(one), due)

    def test_long(self):
        top = 10 ** 1000 - 1
        self.assertEqual(write_ratio((top, 1)), "9" * 1000)
        self.assertEqual(write_ratio((-top, 10 ** 999)), "-" + "9" * 1000 + "/1" + "0" * 999)
        self.assertEqual(write_ratio((1, top)), "1/" + "9" * 1000)
        self.assertEqual(write_ratio((HUGE, 1)), "1" + "0" * 998 + "7")

    def test_errors(self):
        for value in NO_RATIOS:
            check_error(self, WrongKind, {"argument": "one"}, write_ratio, value)


class TestReadRatio(unittest.TestCase):
    def test_there_and_back(self):
        source = random.Random(121)
        for _ in range(500):
            size = source.choice([3, 30, 10 ** 9, 10 ** 50])
            one = q(source.randint(-size, size), source.randint(1, size))
            self.assertEqual(read_ratio(write_ratio(one)), one)
        for one in [q(0), q(1), q(-1), q(10), q(100, 7), q(-7, 100)]:
            self.assertEqual(read_ratio(write_ratio(one)), one)

    def test_what_is_no_written_form(self):
        for word in [
            "", "-", "/", "+1", "1+", "--1", "1-", "-0", "00", "01", "-01", "0/1", "1/1", "-5/1", "0/5", "-0/5", "2/4",
            "-2/4",
            "10/5", "1/0", "0/0", "1/-2", "-1/-2", "1/02", "01/2", "1/", "/2", "-/2", "1/2/3", "1//2", " 1", "1 ",
            "1 2",
            "1/ 2", "1 /2", "\n1", "1\n", "1/2\n", "0.5", "1.0", "1,5", "1e3", "1_000", "0x10", "a", "1a", "a1", "1/a",
            "b/2",
            "fixed", "None", "~1", "#1", "(1)", "1/2-", "1/+2", "- 1", "1:2", "0-", "/", "//", "-/", "1/00", "00/1",
        ]:
            self.assertIsNone(read_ratio(word), word)

    def test_every_short_word(self):
        marks = "-/0124"
        words = [""]
        for _ in range(5):
            words = [word + mark for word in words for mark in marks]
            for word in words:
                self.assertEqual(read_ratio(word), self.slow_read(word), word)

    def slow_read(self, word):
        """The ratio, by trying which ratio is written like this."""
        body = word[1:] if word.startswith("-") else word
        parts = body.split("/")
        if len(parts) > 2 or not all(part and all(mark in "0123456789" for mark in part) for part in parts):
            return None
        above, below = int(parts[0]), int(parts[1]) if len(parts) == 2 else 1
        if below == 0 or gcd(above, below) != 1:
            return None
        one = (-above if word.startswith("-") else above, below)
        return one if write_ratio(one) == word else None

    def test_digits(self):
        long, longer = "9" * 400, "9" * 401
        self.assertEqual(read_ratio(long), (int(long), 1))
        self.assertEqual(read_ratio("-" + long), (-int(long), 1))
        self.assertEqual(read_ratio("1/" + long), (1, int(long)))
        self.assertEqual(read_ratio("1" + "0" * 399 + "/" + long), (10 ** 399, int(long)))
        self.assertEqual(read_ratio("-1" + "0" * 399 + "/" + long), (-10 ** 399, int(long)))
        for word in [
            longer, "-" + longer, "1/" + longer, longer + "/7", "1" + "0" * 400, "0" * 401, "0" * 400,
            "1/1" + "0" * 400,
            "-1" + "0" * 400 + "/3", "0" + long, "9" * 5000, "1/" + "9" * 100000, "9" * 100000 + "/" + "7" * 100000,
            "-" * 100000, "/" * 100000, "a" * 100000, "-" + "9" * 100000,
        ]:
            self.assertIsNone(read_ratio(word))

    def test_errors(self):
        for value in NO_TEXTS:
            check_error(self, WrongKind, {"argument": "word"}, read_ratio, value)


class TestSplitRow(unittest.TestCase):
    def test_small(self):
        for row, due in [
            ("cut ab", [("cut", 1), ("ab", 5)]), ("a", [("a", 1)]), ("# b", [("#", 1), ("b", 3)]), ("#", [("#", 1)]),
            ("joint a 1/2 -3", [("joint", 1), ("a", 7), ("1/2", 9), ("-3", 13)]), ("~!@ x", [("~!@", 1), ("x", 5)]),
            ("a b c", [("a", 1), ("b", 3), ("c", 5)]), ("#ab", [("#ab", 1)]),
        ]:
            for line in (1, 4, HUGE):
                self.assertEqual(split_row(row, line), due)

    def test_words_at_their_columns(self):
        source = random.Random(122)
        for _ in range(200):
            words = [source.choices("ab/#-1", k=source.randint(1, 4)) for _ in range(source.randint(1, 6))]
            row = " ".join("".join(word) for word in words)
            found = split_row(row, 1)
            self.assertEqual(" ".join(word for word, _ in found), row)
            for word, column in found:
                self.assertEqual(row[column - 1:column - 1 + len(word)], word)
                self.assertNotIn(" ", word)

    def test_long_words(self):
        found = split_row("x" * 50000 + " " + "9" * 70000 + " y", 1)
        self.assertEqual([(len(word), column) for word, column in found], [(50000, 1), (70000, 50002), (1, 120003)])

    def test_spacing(self):
        for row, column in [
            (" ", 1), ("  ", 1), (" a", 1), ("a ", 3), ("ab ", 4), ("a  b", 3), ("a b ", 5), ("a b  ", 5),
            ("ab cd  e ", 7),
            ("  a", 1), ("a   b", 3), (" a  b", 1), ("# ", 3), ("x" * 100000 + " ", 100002),
        ]:
            for line in (1, 17, HUGE):
                check_error(self, BadText, {"line": line, "column": column, "fault": "spacing"}, split_row, row, line)

    def test_errors(self):
        for value in [*NO_TEXTS, "", "\n", "a\n", "\na", "a\nb", "a b\n"]:
            check_error(self, WrongKind, {"argument": "row"}, split_row, value, None)
        for value in [None, True, False, "1", (1, 1), [1], {}]:
            check_error(self, WrongKind, {"argument": "line"}, split_row, " ", value)
        for value in (0, -1, -HUGE):
            check_error(self, OutOfBounds, {"argument": "line"}, split_row, " ", value)

    def test_fresh(self):
        check_fresh(self, lambda: split_row("a b c", 3))

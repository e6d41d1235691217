"""Words: the written forms of ratios, and rows that are split at their spaces."""

from math import gcd

from standframes.errors import BadText, OutOfBounds, WrongKind
from standframes.ratios import is_integer, need_ratio

MOST_DIGITS = 400
DIGITS = "0123456789"


def write_ratio(one):
    """The written form of the ratio."""
    need_ratio(one, "one")
    numerator, denominator = one
    return str(numerator) if denominator == 1 else f"{numerator}/{denominator}"


def _whole(digits):
    """The integer that these digits write, or None if they are not its written form or too many."""
    if not 1 <= len(digits) <= MOST_DIGITS or any([mark not in DIGITS for mark in digits]):
        return None
    if digits[0] == "0" and len(digits) > 1:
        return None
    return int(digits)


def read_ratio(word):
    """The ratio of which the word is the written form, or None."""
    if not isinstance(word, str):
        raise WrongKind("word")
    front, slash, back = word.partition("/")
    minus = front[:1] == "-"
    above = _whole(front[1:] if minus else front)
    below = _whole(back) if slash else 1
    if above is None or below is None or (minus and above == 0):
        return None
    # The denominator 1 is not written.
    if slash and (below < 2 or gcd(above, below) != 1):
        return None
    return (-above if minus else above, below)


def split_row(row, line):
    """The list of (word, column) of the row in this line."""
    if not isinstance(row, str) or not row or "\n" in row:
        raise WrongKind("row")
    if not is_integer(line):
        raise WrongKind("line")
    if line < 1:
        raise OutOfBounds("line")
    words = []
    column = 1
    for word in row.split(" "):
        if not word:
            raise BadText(line, column, "spacing")
        words.append((word, column))
        column += len(word) + 1
    return words

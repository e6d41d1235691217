"""Texts: their rows, the words of each row with their forms, and rows that are written."""

from standframes.errors import BadText, WrongKind
from standframes.exact import NOUGHT
from standframes.frames import is_name, is_role
from standframes.words import read_ratio, split_row, write_ratio


def need_text(text):
    if not isinstance(text, str):
        raise WrongKind("text")


def rows_in(text):
    """The rows of a text, each as (line, row), without the lines that are skipped."""
    lines = text.split("\n")
    last = lines.pop()
    if last:
        raise BadText(len(lines) + 1, len(last) + 1, "end")
    return [(at, line) for at, line in enumerate(lines, start=1) if line and not line.startswith("#")]


class Row:
    """The words of a row, and where they stand. The words are counted from 0."""

    def __init__(self, row, line):
        pairs = split_row(row, line)
        self.line = line
        self.end = len(row) + 1
        self.words = [word for word, _ in pairs]
        self.columns = [column for _, column in pairs]

    def refuse(self, at, fault):
        raise BadText(self.line, self.columns[at], fault)

    def key_word(self, at, listed):
        """The word on which the number of words depends. It is one of those listed."""
        if len(self.words) <= at:
            raise BadText(self.line, self.end, "count")
        if self.words[at] not in listed:
            raise BadText(self.line, self.columns[at], "word")
        return self.words[at]

    def fit(self, forms):
        """Checks that there is a word for each form behind the first word, and that it has this form."""
        due = len(forms) + 1
        if len(self.words) > due:
            raise BadText(self.line, self.columns[due], "count")
        if len(self.words) < due:
            raise BadText(self.line, self.end, "count")
        for at, form in enumerate(forms, start=1):
            if not self.has_form(at, form):
                raise BadText(self.line, self.columns[at], "word")

    def has_form(self, at, form):
        """True if the word has the form. The forms "along" and "up" are those of the numbers of a direction."""
        word = self.words[at]
        if form == "key":
            return True
        if form == "name":
            return is_name(word)
        if form == "role":
            return is_role(word)
        number = read_ratio(word)
        if form == "along" and number == NOUGHT:
            # Where the other number is no number, the fault is there.
            return read_ratio(self.words[at + 1]) != NOUGHT
        return number is not None

    def number(self, at):
        """The ratio that the word writes."""
        return read_ratio(self.words[at])


def row_text(words):
    """The line of a row with these words."""
    return " ".join(words) + "\n"


def across_words(across):
    """The words of a ground, or of no ground."""
    if across is None:
        return ["none"]
    if across == "fixed":
        return ["fixed"]
    return ["slide", write_ratio(across[0]), write_ratio(across[1])]


def across_forms(word):
    """The forms of the words of a ground that begin with this word."""
    return ("key", "along", "up") if word == "slide" else ("key",)


def read_across(row, at):
    """The ground, or None, that the words from this one on tell."""
    word = row.words[at]
    if word == "slide":
        return (row.number(at + 1), row.number(at + 2))
    return None if word == "none" else word

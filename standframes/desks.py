"""Desks: deeds as texts, and yards that are run by them."""

from standframes.deeds import is_deed
from standframes.errors import (
    NothingToRedo, NothingToUndo, OutOfBounds, RepeatedName, UnknownName, Unsafe, WrongKind, ZeroBar,
)
from standframes.texts import Row, across_forms, across_words, need_text, read_across, row_text, rows_in
from standframes.words import write_ratio
from standframes.yards import RULES, Yard, need_rule

GROUND_WORDS = ("none", "fixed", "slide")
LINK_FORMS = ("name", "name", "role")

# The forms of the words in the rows whose number of words does not depend on a word.
FORMS = {
    "bar": ("name", "name", "name", "role"), "load": ("name", "number", "number"), "cut": ("name",), "drop": ("name",),
    "undo": (), "redo": (),
}


def _joint_words(deed):
    _, joint, x, y, across, links = deed
    words = [joint, write_ratio(x), write_ratio(y)] + across_words(across)
    for link in links:
        words.extend(list(link))
    return words


def _deed_words(deed):
    """The words of the row of the deed."""
    word = deed[0]
    if word == "joint":
        return [word] + _joint_words(deed)
    if word == "ground":
        return [word, deed[1]] + across_words(deed[2])
    if word == "load":
        return [word, deed[1], write_ratio(deed[2]), write_ratio(deed[3])]
    return list(deed)


def write_deeds(deeds):
    """The text of the deeds, one row for each."""
    if not isinstance(deeds, list) or not all([is_deed(deed) for deed in deeds]):
        raise WrongKind("deeds")
    return "".join([row_text(_deed_words(deed)) for deed in deeds])


def _read_joint(row):
    word = row.key_word(4, GROUND_WORDS)
    forms = ("name", "number", "number") + across_forms(word)
    # Words that are too few for a whole bar count as a bar that lacks some.
    count = (len(row.words) - len(forms) + 1) // 3
    row.fit(forms + LINK_FORMS * count)
    start = len(forms) + 1
    links = [tuple(row.words[at:at + 3]) for at in range(start, len(row.words), 3)]
    return ("joint", row.words[1], row.number(2), row.number(3), read_across(row, 4), tuple(links))


def _read_deed(row):
    """The deed that the row tells; for undo and redo, a tuple of this word alone."""
    word = row.words[0]
    if word == "joint":
        return _read_joint(row)
    if word == "ground":
        row.fit(("name",) + across_forms(row.key_word(2, GROUND_WORDS)))
        return ("ground", row.words[1], read_across(row, 2))
    row.fit(FORMS[word])
    if word == "load":
        return ("load", row.words[1], row.number(2), row.number(3))
    return tuple(row.words)


def _read_rows(text, listed):
    """The tuples (line, deed) of the rows, which begin with one of the listed words."""
    found = []
    for line, told in rows_in(text):
        row = Row(told, line)
        if row.words[0] not in listed:
            row.refuse(0, "row")
        found.append((line, _read_deed(row)))
    return found


def read_deeds(text):
    """The deeds that the text tells."""
    need_text(text)
    return [deed for _, deed in _read_rows(text, ("joint", "bar", "ground", "load", "cut", "drop"))]


def _do_row(yard, deed):
    """Does what a row tells, and returns the word for it."""
    if deed[0] == "undo":
        yard.undo()
        return "undone"
    if deed[0] == "redo":
        yard.redo()
        return "redone"
    yard.work(deed)
    return "done"


def _outcome(yard, deed):
    """The word for what a row does, or for why it is refused."""
    try:
        return _do_row(yard, deed)
    except OutOfBounds:
        return "bounds"
    except RepeatedName:
        return "repeated"
    except UnknownName:
        return "unknown"
    except ZeroBar:
        return "zero"
    except Unsafe:
        return "unsafe"
    except (NothingToUndo, NothingToRedo):
        return "empty"


def run_rows(text, *, rule="free"):
    """(yard, outcomes): a yard that has done the rows of the text, and what came of each row."""
    need_text(text)
    need_rule(rule, RULES)
    rows = _read_rows(text, ("joint", "bar", "ground", "load", "cut", "drop", "undo", "redo"))
    yard = Yard(rule=rule)
    return (yard, [(line, _outcome(yard, deed)) for line, deed in rows])

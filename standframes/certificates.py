"""Certificates: forces and motions as texts, and the answers to the asks of a sheet."""

from standframes.counts import kept_bars
from standframes.errors import BadText, OutOfBounds, WrongKind
from standframes.forces import carry, own_stresses
from standframes.frames import is_name, is_named_points
from standframes.motions import freedom, lock
from standframes.oneway import hold, steady
from standframes.ratios import is_ratio
from standframes.sheets import need_sheet, sheet_of
from standframes.texts import Row, need_text, row_text, rows_in
from standframes.words import write_ratio

MOST_ITEMS = 60

# The words that may follow a first word; behind them come those that have begun already.
NEXT_WORDS = {
    "": ("forces", "motion"), "forces": ("pull", "react"), "pull": ("pull", "react"), "react": ("react",),
    "motion": ("move",), "move": ("move",),
}
FORMS = {
    "forces": (), "motion": (), "pull": ("name", "number"), "react": ("name", "number", "number"),
    "move": ("name", "number", "number"),
}


def _is_pull(item):
    return isinstance(item, tuple) and len(item) == 2 and is_name(item[0]) and is_ratio(item[1])


def _is_pull_list(value):
    return isinstance(value, list) and all([_is_pull(item) for item in value])


def _is_certificate(value):
    if not isinstance(value, tuple) or len(value) not in (2, 3):
        return False
    if len(value) == 2:
        return value[0] == "motion" and is_named_points(value[1])
    return value[0] == "forces" and _is_pull_list(value[1]) and is_named_points(value[2])


def _written(word, items):
    """The rows of these items, each a tuple of a name and ratios."""
    return [row_text([word, item[0]] + [write_ratio(part) for part in item[1:]]) for item in items]


def write_certificate(certificate):
    """The written form of the certificate."""
    if not _is_certificate(certificate):
        raise WrongKind("certificate")
    if sum([len(part) for part in certificate[1:]]) > MOST_ITEMS:
        raise OutOfBounds("certificate")
    rows = [row_text([certificate[0]])]
    if certificate[0] == "forces":
        rows.extend(_written("pull", certificate[1]))
        rows.extend(_written("react", certificate[2]))
    else:
        rows.extend(_written("move", certificate[1]))
    return "".join(rows)


def _item(row):
    """The tuple that the words behind the first one tell: a name and one or two numbers."""
    numbers = [row.number(at) for at in range(2, len(row.words))]
    return (row.words[1], *numbers)


def read_certificate(text):
    """The certificate that the text tells."""
    need_text(text)
    found = {"pull": [], "react": [], "move": []}
    first = ""
    before = ""
    count = 0
    for line, told in rows_in(text):
        row = Row(told, line)
        word = row.words[0]
        if word not in NEXT_WORDS[before]:
            row.refuse(0, "row")
        row.fit(FORMS[word])
        before = word
        if not first:
            first = word
            continue
        count += 1
        if count > MOST_ITEMS:
            row.refuse(0, "many")
        found[word].append(_item(row))
    if not first:
        raise BadText(text.count("\n") + 1, 1, "row")
    return ("forces", found["pull"], found["react"]) if first == "forces" else ("motion", found["move"])


def _answer(sheet, ask):
    frame = sheet.frame
    loads = {name: load for name, load in sheet.loads}
    word = ask[0]
    if word == "carry":
        return carry(frame, loads[ask[1]])
    if word == "hold":
        return hold(frame, loads[ask[1]])
    if word == "lock":
        return lock(frame, ask[1], ask[2])
    if word == "steady":
        return steady(frame)
    if word == "freedom":
        return freedom(frame)
    return kept_bars(frame) if word == "kept" else own_stresses(frame)


def answers(sheet):
    """The answer to each ask of the sheet."""
    need_sheet(sheet)
    return [_answer(sheet, ask) for ask in sheet.asks]


def _told_briefly(ask, answer):
    """The words of the line for an ask with this answer."""
    if ask[0] == "freedom":
        return [*ask, str(answer)]
    if ask[0] == "kept":
        return [*ask, *answer]
    if ask[0] == "stresses":
        return [*ask, str(len(answer))]
    return [*ask, answer[0]]


def reply(text):
    """The reply to the text of a sheet: one line for each ask."""
    need_text(text)
    sheet = sheet_of(text)
    return "".join([row_text(_told_briefly(ask, answer)) for ask, answer in zip(sheet.asks, answers(sheet))])

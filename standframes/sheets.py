"""Sheets: frames with loads and asks, and their texts."""

from standframes.checks import need_frame, need_joints_there
from standframes.errors import OutOfBounds, UnknownName, WrongKind
from standframes.frames import Frame, is_name, joined_pair, need_each_once
from standframes.loads import MOST_FORCES, Load, need_joints_of_load
from standframes.texts import Row, across_forms, across_words, need_text, read_across, row_text, rows_in
from standframes.words import write_ratio

MOST_LOADS = 8
MOST_ASKS = 12

# How many names follow the word of an ask.
NAMES_OF_ASK = {"carry": 1, "hold": 1, "lock": 2, "steady": 0, "freedom": 0, "kept": 0, "stresses": 0}


def _is_named_load(item):
    return isinstance(item, tuple) and len(item) == 2 and is_name(item[0]) and isinstance(item[1], Load)


def _is_ask(item):
    if not isinstance(item, tuple) or not item or not isinstance(item[0], str) or item[0] not in NAMES_OF_ASK:
        return False
    return len(item) == NAMES_OF_ASK[item[0]] + 1 and all([is_name(part) for part in item[1:]])


def _need_kinds(frame, loads, asks):
    need_frame(frame)
    if not isinstance(loads, list) or not all([_is_named_load(item) for item in loads]):
        raise WrongKind("loads")
    if not isinstance(asks, list) or not all([_is_ask(item) for item in asks]):
        raise WrongKind("asks")


def _need_known(frame, loads, asks):
    for _, load in loads:
        need_joints_of_load(frame, load)
    names = [name for name, _ in loads]
    for ask in asks:
        if ask[0] == "lock":
            need_joints_there(frame, list(ask[1:]))
        elif len(ask) == 2 and ask[1] not in names:
            raise UnknownName(ask[1])


class Sheet:
    """A frame, loads with names, and asks. A sheet does not change."""

    def __init__(self, frame, loads, asks):
        _need_kinds(frame, loads, asks)
        if len(loads) > MOST_LOADS:
            raise OutOfBounds("loads")
        if len(asks) > MOST_ASKS:
            raise OutOfBounds("asks")
        need_each_once([name for name, _ in loads])
        _need_known(frame, loads, asks)
        self._frame = frame
        self._loads = list(loads)
        self._asks = list(asks)

    @property
    def frame(self):
        return self._frame

    @property
    def loads(self):
        return list(self._loads)

    @property
    def asks(self):
        return list(self._asks)

    def __eq__(self, other):
        return (
            isinstance(other, Sheet) and self._frame == other._frame
            and self._loads == other._loads and self._asks == other._asks
        )


def need_sheet(sheet):
    if not isinstance(sheet, Sheet):
        raise WrongKind("sheet")


class Draft:
    """What the rows of a sheet have told so far."""

    def __init__(self):
        self.spots = {}
        self.bar_rows = []
        self.held = {}
        self.pushes = {}
        self.ask_rows = []

    def need_spots(self, row, places):
        """Refuses the row if one of its words at these places is no joint that is there."""
        for at in places:
            if row.words[at] not in self.spots:
                row.refuse(at, "unknown")

    def sheet(self):
        """The sheet of the rows."""
        joints = [(name, x, y) for name, (x, y) in self.spots.items()]
        frame = Frame(joints, self.bar_rows, grounds=list(self.held.items()))
        loads = [(name, Load(forces)) for name, forces in self.pushes.items()]
        return Sheet(frame, loads, self.ask_rows)


def _take_joint(draft, row):
    row.fit(("name", "number", "number"))
    name = row.words[1]
    if len(draft.spots) >= Frame.MOST_JOINTS:
        row.refuse(0, "many")
    if name in draft.spots:
        row.refuse(1, "repeated")
    draft.spots[name] = (row.number(2), row.number(3))


def _take_bar(draft, row):
    row.fit(("name", "name", "name", "role"))
    name, one, other, role = row.words[1:]
    if len(draft.bar_rows) >= Frame.MOST_BARS:
        row.refuse(0, "many")
    for bar, first, second, _ in draft.bar_rows:
        if bar == name or joined_pair(first, second) == joined_pair(one, other):
            row.refuse(1, "repeated")
    draft.need_spots(row, (2, 3))
    if draft.spots[one] == draft.spots[other]:
        row.refuse(1, "zero")
    draft.bar_rows.append((name, one, other, role))


def _take_ground(draft, row):
    word = row.key_word(2, ("fixed", "slide"))
    row.fit(("name",) + across_forms(word))
    joint = row.words[1]
    if joint in draft.held:
        row.refuse(1, "repeated")
    draft.need_spots(row, (1,))
    draft.held[joint] = read_across(row, 2)


def _take_load(draft, row):
    row.fit(("name",))
    name = row.words[1]
    if len(draft.pushes) >= MOST_LOADS:
        row.refuse(0, "many")
    if name in draft.pushes:
        row.refuse(1, "repeated")
    draft.pushes[name] = []


def _take_push(draft, row):
    row.fit(("name", "name", "number", "number"))
    name = row.words[1]
    if len(draft.pushes.get(name, [])) >= MOST_FORCES:
        row.refuse(0, "many")
    if name not in draft.pushes:
        row.refuse(1, "unknown")
    draft.need_spots(row, (2,))
    draft.pushes[name].append((row.words[2], row.number(3), row.number(4)))


def _take_ask(draft, row):
    word = row.key_word(1, list(NAMES_OF_ASK))
    row.fit(("key",) + ("name",) * NAMES_OF_ASK[word])
    if len(draft.ask_rows) >= MOST_ASKS:
        row.refuse(0, "many")
    if word == "lock":
        draft.need_spots(row, (2, 3))
    elif len(row.words) == 3 and row.words[2] not in draft.pushes:
        row.refuse(2, "unknown")
    draft.ask_rows.append(tuple(row.words[1:]))


TAKERS = {
    "joint": _take_joint, "bar": _take_bar, "ground": _take_ground, "load": _take_load, "push": _take_push,
    "ask": _take_ask,
}


def sheet_of(text):
    """The sheet of a text."""
    draft = Draft()
    for line, told in rows_in(text):
        row = Row(told, line)
        if row.words[0] not in TAKERS:
            row.refuse(0, "row")
        take = TAKERS[row.words[0]]
        take(draft, row)
    return draft.sheet()


def read_sheet(text):
    """The sheet that the text tells."""
    need_text(text)
    return sheet_of(text)


def write_sheet(sheet):
    """The written form of the sheet."""
    need_sheet(sheet)
    frame = sheet.frame
    rows = [["joint", name, write_ratio(x), write_ratio(y)] for name, x, y in frame.joints]
    rows.extend([["bar", name, one, other, role] for name, one, other, role in frame.bars])
    rows.extend([["ground", joint] + across_words(across) for joint, across in frame.grounds])
    for name, load in sheet.loads:
        rows.append(["load", name])
        rows.extend([["push", name, joint, write_ratio(x), write_ratio(y)] for joint, x, y in load])
    rows.extend([["ask", *ask] for ask in sheet.asks])
    return "".join([row_text(row) for row in rows])

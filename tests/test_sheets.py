import copy
import random
import unittest

from helpers import (
    HUGE, NO_FRAMES, NO_NAMES, bars, check_error, check_fresh, forces, joints, point, q, triangle,
)
from reference import slow_columns, slow_lines, slow_row, some_frames
from standframes.errors import BadText, OutOfBounds, RepeatedName, UnknownName, WrongKind
from standframes.frames import Frame
from standframes.loads import Load
from standframes.sheets import Sheet, read_sheet, write_sheet

ASKS = [
    ("carry", "w"), ("hold", "w"), ("lock", "a", "b"), ("steady",), ("freedom",), ("kept",), ("stresses",),
]
NO_ASKS = [
    None, 1, "freedom", (), ("freedom", "a"), ("carry",), ("carry", "w", "w"), ("lock", "a"), ("lock", "a", "b", "a"),
    ["freedom"], ("ask", "freedom"), ("Freedom",), ("steady", "a"), ("kept", None), ("carry", 1), ("hold", "W"),
    ("lock", "a", "B"), (None,), (("freedom",),), ({},), ([],), ("stresses", "w"), ("",), (True,), ("free",),
    ([], "w"), ({}, "a"), (None, "freedom"), ("w", "carry"),
]
TEXT = """joint a 0 0
joint b 2 0
bar ab a b rod
ground a fixed
ground b slide 0 -1/2
load w
push w b 1 -3/4
ask carry w
"""


def fault(test, text, line, column, word, read=read_sheet):
    check_error(test, BadText, {"line": line, "column": column, "fault": word}, read, text)


class TestSheet(unittest.TestCase):
    def test_small(self):
        frame, loads = triangle(), [("w", Load(forces(a=(1, 2)))), ("v", Load([]))]
        sheet = Sheet(frame, loads, ASKS)
        self.assertEqual((sheet.frame, sheet.loads, sheet.asks), (frame, loads, ASKS))
        empty = Sheet(Frame([], []), [], [])
        self.assertEqual((empty.frame, empty.loads, empty.asks), (Frame([], []), [], []))
        # Names of loads may be names of joints and of bars, and words of the rows.
        sheet = Sheet(frame, [("a", Load([])), ("ab", Load([])), ("carry", Load([]))], [("carry", "carry")] * 12)
        self.assertEqual(len(sheet.asks), 12)

    def test_copies(self):
        loads, asks = [("w", Load([]))], [("freedom",)]
        sheet = Sheet(triangle(), loads, asks)
        before = copy.deepcopy([loads, asks])
        loads.clear()
        asks.append(("kept",))
        sheet.loads.append(1)
        sheet.asks.clear()
        self.assertEqual([sheet.loads, sheet.asks], before)
        self.assertIsNot(sheet.loads, sheet.loads)
        self.assertIsNot(sheet.asks, sheet.asks)

    def test_equal(self):
        loads = [("v", Load(forces(a=(1, 0)))), ("w", Load(forces(b=(1, 0))))]
        asks = [("freedom",), ("carry", "w")]
        sheet = Sheet(triangle(), loads, asks)
        self.assertTrue(sheet == Sheet(triangle(), list(loads), list(asks)))
        self.assertFalse(sheet != Sheet(triangle(), list(loads), list(asks)))
        held = triangle(grounds=[("a", "fixed")])
        for other in [
            Sheet(held, loads, asks), Sheet(triangle(), loads[::-1], asks), Sheet(triangle(), loads, asks[::-1]),
            Sheet(triangle(), loads, asks[:1]), Sheet(triangle(), [("v", loads[1][1]), loads[1]], asks),
            Sheet(triangle(), [("u", loads[0][1]), loads[1]], asks), Sheet(triangle(), loads, asks + asks[:1]),
            None, 1, "sheet", loads, triangle(), loads[0][1], [], (),
        ]:
            self.assertIs(sheet == other, False)
            self.assertIs(sheet != other, True)

    def test_kinds(self):
        for value in NO_FRAMES:
            check_error(self, WrongKind, {"argument": "frame"}, Sheet, value, None, None)
        load = Load([])
        for value in [
            None, 1, (), {}, "w", load, [load], [("w",)], [("w", load, 1)], [["w", load]], [("w", None)], [("w", [])],
            [(load, "w")], [("w", load), None], {"w": load}, (("w", load),),
        ]:
            check_error(self, WrongKind, {"argument": "loads"}, Sheet, triangle(), value, None)
        for value in NO_NAMES:
            check_error(self, WrongKind, {"argument": "loads"}, Sheet, triangle(), [(value, load)] * 9, None)
        many = [("w", load)] * 9
        for value in [None, 1, (), {}, "freedom", *[[item] for item in NO_ASKS], [("freedom",), None], (("kept",),)]:
            check_error(self, WrongKind, {"argument": "asks"}, Sheet, triangle(), many, value)
        for value in NO_NAMES:
            for ask in [("carry", value), ("lock", value, "a"), ("lock", "a", value), ("hold", value)]:
                check_error(self, WrongKind, {"argument": "asks"}, Sheet, triangle(), many, [ask])

    def test_rounds(self):
        frame, load, far = triangle(), Load([]), Load(forces(y=(1, 1), x=(1, 1), a=(1, 1)))
        names = [f"w{k}" for k in range(9)]
        Sheet(frame, [(name, load) for name in names[:8]], [("freedom",)] * 12)
        many = [("freedom",)] * 13
        check_error(self, OutOfBounds, {"argument": "loads"}, Sheet, frame, [("w", far)] * 9, many)
        check_error(self, OutOfBounds, {"argument": "loads"}, Sheet, frame, [(name, load) for name in names], [])
        check_error(self, OutOfBounds, {"argument": "asks"}, Sheet, frame, [("w", far)] * 8, many)
        twice = [("u", far), ("v", far), ("w", far), ("v", far), ("u", far)]
        check_error(self, RepeatedName, {"repeated": "v"}, Sheet, frame, twice, [("carry", "z")])
        given = [("u", load), ("v", far), ("w", Load(forces(k=(1, 1))))]
        check_error(self, UnknownName, {"unknown": "x"}, Sheet, frame, given, [("carry", "z")])
        for asks, name in [
            ([("carry", "z"), ("hold", "y")], "z"), ([("hold", "a")], "a"), ([("lock", "y", "z")], "y"),
            ([("lock", "a", "u")], "u"), ([("freedom",), ("carry", "u"), ("lock", "b", "ab")], "ab"),
            ([("lock", "a", "x"), ("carry", "y")], "x"),
        ]:
            check_error(self, UnknownName, {"unknown": name}, Sheet, frame, [("u", load)], asks)
        Sheet(frame, [("u", load)], [("lock", "a", "a"), ("carry", "u"), ("hold", "u")])


class TestWriteSheet(unittest.TestCase):
    def test_small(self):
        frame = Frame(joints(a=(0, 0), b=(2, 0)), bars("ab"), grounds=[("a", "fixed"), ("b", (q(0), q(-1, 2)))])
        sheet = Sheet(frame, [("w", Load([("b", q(1), q(-3, 4))]))], [("carry", "w")])
        self.assertEqual(write_sheet(sheet), TEXT)
        self.assertEqual(read_sheet(TEXT), sheet)
        self.assertEqual(write_sheet(Sheet(Frame([], []), [], [])), "")

    def test_every_row(self):
        frame = Frame(
            [("z", q(-1, 3), q(7)), ("fixed", q(0), q(1)), ("joint", q(10), q(22, 7))],
            [("bar", "z", "fixed", "tie"), ("z", "joint", "z", "prop"), ("rod", "fixed", "joint", "rod")],
            grounds=[("joint", (q(1), q(0))), ("z", "fixed"), ("fixed", point(-2, 3))])
        loads = [("load", Load(forces(z=(1, 0), fixed=(0, -1)))), ("push", Load([])), ("a", Load(forces(joint=(1, 1))))]
        asks = [("hold", "push"), ("lock", "z", "fixed"), ("kept",), ("freedom",), ("steady",), ("stresses",),
                ("carry", "a"), ("freedom",), ("lock", "z", "z")]
        text = (
            "joint z -1/3 7\njoint fixed 0 1\njoint joint 10 22/7\nbar bar z fixed tie\nbar z joint z prop\n"
            "bar rod fixed joint rod\nground joint slide 1 0\nground z fixed\nground fixed slide -2 3\nload load\n"
            "push load fixed 0 -1\npush load z 1 0\nload push\nload a\npush a joint 1 1\nask hold push\n"
            "ask lock z fixed\nask kept\nask freedom\nask steady\nask stresses\nask carry a\nask freedom\n"
            "ask lock z z\n")
        sheet = Sheet(frame, loads, asks)
        self.assertEqual(write_sheet(sheet), text)
        self.assertEqual(read_sheet(text), sheet)

    def test_there_and_back(self):
        source = random.Random(131)
        for frame, load in some_frames(150, 132):
            loads = [(f"w{k}", load * q(source.randint(-3, 3), 2)) for k in range(source.randint(0, 8))]
            names = [row[0] for row in frame.joints]
            asks = [("freedom",), ("kept",), ("steady",), ("stresses",)] + [("carry", name) for name, _ in loads]
            asks += [("lock", one, other) for one in names[:2] for other in names[-2:]]
            asks = source.sample(asks, source.randint(0, min(12, len(asks))))
            sheet = Sheet(frame, loads, asks)
            text = write_sheet(sheet)
            self.assertEqual(read_sheet(text), sheet)
            self.assertEqual(write_sheet(read_sheet(text)), text)

    def test_long_numbers(self):
        top = 10 ** 400 - 1
        frame = Frame([("a", (top, 1), (-top, top - 1)), ("b", q(0), (1, top))], [("ab", "a", "b", "rod")],
                      grounds=[("b", ((top, 1), (1, top)))])
        sheet = Sheet(frame, [("w", Load([("a", (-top, 1), q(0))]))], [])
        self.assertEqual(read_sheet(write_sheet(sheet)), sheet)
        longer = Sheet(Frame([("a", (HUGE, 1), q(0))], []), [], [])
        self.assertEqual(write_sheet(longer), f"joint a {HUGE} 0\n")
        fault(self, write_sheet(longer), 1, 9, "word")

    def test_errors(self):
        for value in [None, 1, TEXT, [], (), {}, triangle(), Load([]), True]:
            check_error(self, WrongKind, {"argument": "sheet"}, write_sheet, value)

    def test_nothing_changes(self):
        sheet = read_sheet(TEXT)
        write_sheet(sheet)
        self.assertEqual(write_sheet(sheet), TEXT)
        check_fresh(self, lambda: read_sheet(TEXT).loads)
        check_fresh(self, lambda: read_sheet(TEXT).asks)
        self.assertEqual(read_sheet(TEXT), read_sheet(TEXT))


class TestReadSheet(unittest.TestCase):
    def test_any_order(self):
        text = """# a sheet

ask steady
load w
joint b 2 0
ground b slide 0 -1/2
push w b 1 0
load v
ask freedom
joint a 0 0
bar ab a b tie
#joint c 0 0
ask lock a b
push v a 1 1
push w b 0 -3/4
#
ground a fixed
ask carry v
push w a 1 1
push w a -1 -1
"""
        frame = Frame(joints(b=(2, 0), a=(0, 0)), bars("ab", role="tie"),
                      grounds=[("b", (q(0), q(-1, 2))), ("a", "fixed")])
        loads = [("w", Load([("b", q(1), q(-3, 4))])), ("v", Load(forces(a=(1, 1))))]
        asks = [("steady",), ("freedom",), ("lock", "a", "b"), ("carry", "v")]
        self.assertEqual(read_sheet(text), Sheet(frame, loads, asks))

    def test_without_rows(self):
        empty = Sheet(Frame([], []), [], [])
        for text in ["", "\n", "#\n", "\n\n", "# joint\n\n#\n", "#joint a b\n", "##  two  blanks \n"]:
            self.assertEqual(read_sheet(text), empty)

    def test_end(self):
        for text, line, column in [
            ("joint a 0 0", 1, 12), ("#", 1, 2), ("\n# skipped", 2, 10), ("wrong\nx", 2, 2), (" ", 1, 2),
            ("joint a 0 0\njoint a 0 0", 2, 12), ("\n\n\n ", 4, 2), ("ask", 1, 4), ("a  b\n# " + "x" * 500, 2, 503),
        ]:
            fault(self, text, line, column, "end")

    def test_spacing(self):
        for row, column in [
            (" ", 1), ("  ", 1), (" joint a 0 0", 1), ("joint  a 0 0", 7), ("joint a 0 0 ", 13), ("x  ", 3),
            ("joint a  0  0", 9), (" #", 1), ("ask  ", 5), ("joint a 0 0 0 ", 15), ("ground a fixed ", 16),
        ]:
            fault(self, f"\n#\n{row}\n", 3, column, "spacing")

    def test_row(self):
        for word in ["Joint", "joints", "x", "fixed", "rod", "-", "carry", "freedom", "cut", "undo", "redo",
                     "drop", "forces", "motion", "pull", "move", "react", "0", "a#", "\"joint\"", "JOINT", "~"]:
            fault(self, f"load w\n{word} a\n", 2, 1, "row")
            fault(self, f"{word}\n", 1, 1, "row")

    def test_count(self):
        base = "joint a 0 0\njoint b 1 0\nload w\n"
        for row, column in [
            ("joint", 6), ("joint c", 8), ("joint c 0", 10), ("joint c 0 0 0", 13), ("joint ? ? ? x", 13),
            ("joint C x", 10), ("bar", 4), ("bar ab a b", 11), ("bar ab a b rod rod", 16), ("bar ab a b x y z", 14),
            ("ground", 7), ("ground a", 9), ("ground ?", 9), ("ground a fixed fixed", 16), ("ground a slide", 15),
            ("ground a slide 1", 17), ("ground a slide 1 0 0", 20), ("load", 5), ("load v v", 8), ("load v 1 0", 8),
            ("push", 5), ("push w", 7), ("push w a 1", 11), ("push w a 1 0 fixed", 14), ("ask", 4), ("ask carry", 10),
            ("ask carry w w", 13), ("ask hold", 9), ("ask hold w a", 12), ("ask lock a", 11), ("ask lock a b a", 14),
            ("ask steady w", 12), ("ask freedom a", 13), ("ask kept a b", 10), ("ask stresses 1", 14),
            ("ask lock", 9), ("joint a 0 0 " + "z " * 99 + "z", 13),
        ]:
            fault(self, f"{base}{row}\n", 4, column, "count")

    def test_word(self):
        base = "joint a 0 0\njoint b 1 0\nload w\n"
        for row, column in [
            ("joint A 0 0", 7), ("joint ab_ x 0", 7), ("joint c x 0", 9), ("joint c 0 x", 11), ("joint c x y", 9),
            ("joint c 01 0", 9), ("joint c 1/1 0", 9), ("joint c 0 -0", 11), ("joint c 2/4 0", 9), ("joint c +1 0", 9),
            ("joint abcdefghi 0 0", 7), ("joint a - 0", 9), ("joint 1a 0 0", 7),
            ("bar ab a b Rod", 12), ("bar AB A B Rod", 5), ("bar ab A B rod", 8), ("bar ab a B rod", 10),
            ("bar ab a b ties", 12), ("bar ab a b 0", 12), ("bar ab 1 b rod", 8),
            ("ground a Fixed", 10), ("ground A none", 10), ("ground A x y z z z", 10), ("ground A fixed", 8),
            ("ground a slide x 0", 16), ("ground a slide 0 y", 18), ("ground a slide 0 0", 16),
            ("ground a slide x y", 16), ("ground A slide 0 0", 8), ("ground a slide -0 0", 16),
            ("ground a slide 1 0/1", 18), ("ground a slide 0 0/1", 18), ("ground a joint", 10), ("ground a a a", 10),
            ("load W", 6), ("load w-", 6), ("push W A x y", 6), ("push w A x y", 8), ("push w a x y", 10),
            ("push w a 0 y", 12), ("ask Carry w", 5), ("ask x", 5), ("ask x y z", 5), ("ask ask carry w", 5),
            ("ask carry W", 11), ("ask lock A B", 10), ("ask lock a B", 12), ("ask hold 1", 10), ("ask carrying", 5),
        ]:
            fault(self, f"{base}{row}\n", 4, column, "word")

    def test_digits(self):
        fine, longer = "9" * 400, "9" * 401
        for x, column in [(longer, 9), ("-" + longer, 9), ("1/" + longer, 9), (longer + "/2", 9), ("9" * 5000, 9)]:
            fault(self, f"joint a {x} 0\n", 1, column, "word")
        for x in [fine, "-" + fine, "1/" + fine, "-1" + "0" * 399 + "/" + fine]:
            frame = read_sheet(f"joint a {x} 0\n").frame
            self.assertEqual(frame.place("a")[0][0] < 0, x[0] == "-")
        fault(self, f"joint a 0 0\nground a slide 0 {longer}\n", 2, 18, "word")
        read_sheet(f"joint a 0 0\nground a slide 0 {fine}\n")

    def test_many(self):
        rows = "".join(f"joint a{k} {k} {k * k}\n" for k in range(12))
        self.assertEqual(len(read_sheet(rows).frame.joints), 12)
        fault(self, rows + "joint b 0 0\n", 13, 1, "many")
        fault(self, rows + "joint a1 0 0\n", 13, 1, "many")
        fault(self, rows + "joint a1 0\n", 13, 11, "count")
        fault(self, rows + "joint a1 0 x\n", 13, 12, "word")
        pairs = [(one, other) for one in range(12) for other in range(one)]
        lines = "".join(f"bar b{k} a{one} a{other} rod\n" for k, (one, other) in enumerate(pairs[:30]))
        self.assertEqual(len(read_sheet(rows + lines).frame.bars), 30)
        for row in ["bar c a0 a11 rod", "bar b1 a0 a1 rod", "bar c x y rod", "bar c a0 a0 tie"]:
            fault(self, rows + lines + row + "\n", 43, 1, "many")
        fault(self, rows + lines + "bar c a0 a11 x\n", 43, 14, "word")
        loads = "".join(f"load w{k}\n" for k in range(8))
        self.assertEqual(len(read_sheet(loads).loads), 8)
        fault(self, loads + "load w0\n", 9, 1, "many")
        fault(self, loads + "load v\n", 9, 1, "many")
        fault(self, loads + "load V\n", 9, 6, "word")
        asks = "ask freedom\n" * 12
        self.assertEqual(len(read_sheet(asks).asks), 12)
        for row in ["ask kept", "ask carry w", "ask lock a b"]:
            fault(self, asks + row + "\n", 13, 1, "many")
        fault(self, asks + "ask lock a\n", 13, 11, "count")

    def test_many_pushes(self):
        base = "joint a 0 0\nload w\nload v\n"
        for push in ["push w a 0 0\n", "push w a 1 2\n"]:
            text = base + push * 24
            load = read_sheet(text).loads[0][1]
            self.assertEqual(load.force("a"), (q(0), q(0)) if " 0 0" in push else (q(24), q(48)))
            for row in ["push w a 0 0", "push w x 0 0", push.strip()]:
                fault(self, text + row + "\n", 28, 1, "many")
            fault(self, text + "push x a 0 0\n", 28, 6, "unknown")
            fault(self, text + "push w a 0 0 0\n", 28, 14, "count")
            # The bound is one of each load.
            self.assertEqual(read_sheet(text + "push v a 1 1\n" * 24).loads[1][1].force("a"), (q(24), q(24)))
        fault(self, base + "push w a 0 0\n" * 24 + "push u a 0 0\n", 28, 6, "unknown")

    def test_repeated(self):
        base = "joint a 0 0\njoint b 1 0\njoint c 0 1\nbar ab a b rod\nground a fixed\nload w\n"
        for row, column in [
            ("joint a 5 5", 7), ("joint b 0 0", 7), ("bar ab b c rod", 5), ("bar ba a b rod", 5), ("bar ba b a tie", 5),
            ("bar ab x y rod", 5), ("ground a fixed", 8), ("ground a slide 1 0", 8), ("load w", 6),
            ("bar ab a a rod", 5),
        ]:
            fault(self, f"{base}{row}\n", 7, column, "repeated")
        # A joint, a bar and a load may have the same name.
        sheet = read_sheet(base + "bar a b c rod\nload a\nload ab\njoint ab 7 7\njoint w 8 8\nbar w w a tie\n")
        self.assertEqual(len(sheet.frame.bars), 3)

    def test_unknown(self):
        base = "joint a 0 0\njoint b 1 0\nload w\nbar ab a b rod\n"
        for row, column in [
            ("bar x y z rod", 7), ("bar x a z rod", 9), ("bar x z a rod", 7), ("bar x x x rod", 7),
            ("bar x ab a rod", 7),
            ("ground c fixed", 8), ("ground w slide 1 0", 8), ("push x y 0 0", 6), ("push w y 0 0", 8),
            ("push a a 0 0", 6), ("push w ab 0 0", 8), ("ask carry x", 11), ("ask hold a", 10), ("ask lock x y", 10),
            ("ask lock a y", 12), ("ask lock w a", 10), ("ask carry ab", 11), ("ground ab fixed", 8),
        ]:
            fault(self, f"{base}{row}\n", 5, column, "unknown")
        # A name must be there before it is used.
        fault(self, "bar ab a b rod\njoint a 0 0\njoint b 1 0\n", 1, 8, "unknown")
        fault(self, "joint a 0 0\npush w a 1 0\nload w\n", 2, 6, "unknown")

    def test_zero(self):
        base = "joint a 0 0\njoint b 0 0\njoint c 1/2 0\n"
        for row in ["bar x a a rod", "bar x a b rod", "bar x b a tie"]:
            fault(self, f"{base}{row}\n", 4, 5, "zero")
        read_sheet(base + "bar x a c rod\nbar y b c rod\n")

    def test_order_of_faults(self):
        for text, line, column, word in [
            ("x \n", 1, 3, "spacing"), ("x  y\nx", 2, 2, "end"), ("joint a 0 0\nx\njoint a  0\n", 2, 1, "row"),
            ("joint A x 0 0\n", 1, 13, "count"), ("x A x 0 0\n", 1, 1, "row"), ("bar ab a a Rod\n", 1, 12, "word"),
            ("joint a 0 0\nbar b a x rod\nbar c a a rod\n", 2, 9, "unknown"),
            ("joint a 0 0\nground a fixed\nground a x\n", 3, 10, "word"),
            ("joint a 0 0\nload w\nload w\nload w w\n", 3, 6, "repeated"),
            ("#\n\njoint a 0 0\n# x\nask carry w\njoint a 0 0\n", 5, 11, "unknown"),
        ]:
            fault(self, text, line, column, word)

    def test_errors(self):
        for value in [None, 1, True, [TEXT], (TEXT,), {}, triangle(), read_sheet(TEXT)]:
            check_error(self, WrongKind, {"argument": "text"}, read_sheet, value)


SLOW_ROWS = {
    "joint": "n##", "bar": "nnnr", "ground fixed": "n?", "ground slide": "n?##", "load": "n", "push": "nn##",
    "ask carry": "?n", "ask hold": "?n", "ask lock": "?nn", "ask steady": "?", "ask freedom": "?", "ask kept": "?",
    "ask stresses": "?",
}


class SlowSheet:
    """Reads a sheet by the words of points 41 to 43, and tells the first fault, or None."""

    def __init__(self):
        self.joints, self.bars, self.grounds, self.loads, self.asks = {}, {}, [], {}, 0

    def read(self, text):
        rows = slow_lines(text)
        if isinstance(rows, tuple):
            return rows
        for at, line in rows:
            found = slow_row(line, SLOW_ROWS, {"ground": 2, "ask": 1}) or self.take(line)
            if found:
                return (at, *found)
        return None

    def take(self, line):
        words, at = slow_columns(line)
        found = getattr(self, words[0])(*words[1:])
        return found and (at[found[0]], found[1])

    def joint(self, name, x, y):
        if len(self.joints) == 12:
            return (0, "many")
        if name in self.joints:
            return (1, "repeated")
        self.joints[name] = (x, y)

    def bar(self, name, one, other, _):
        if len(self.bars) == 30:
            return (0, "many")
        if name in self.bars or {one, other} in self.bars.values():
            return (1, "repeated")
        for k, end in ((2, one), (3, other)):
            if end not in self.joints:
                return (k, "unknown")
        if self.joints[one] == self.joints[other]:
            return (1, "zero")
        self.bars[name] = {one, other}

    def ground(self, joint, *_):
        if joint in self.grounds:
            return (1, "repeated")
        if joint not in self.joints:
            return (1, "unknown")
        self.grounds.append(joint)

    def load(self, name):
        if len(self.loads) == 8:
            return (0, "many")
        if name in self.loads:
            return (1, "repeated")
        self.loads[name] = 0

    def push(self, name, joint, *_):
        if self.loads.get(name) == 24:
            return (0, "many")
        if name not in self.loads:
            return (1, "unknown")
        if joint not in self.joints:
            return (2, "unknown")
        self.loads[name] += 1

    def ask(self, word, *names):
        if self.asks == 12:
            return (0, "many")
        known = self.joints if word == "lock" else self.loads
        for k, name in enumerate(names, 2):
            if name not in known:
                return (k, "unknown")
        self.asks += 1


class TestAgainstSlow(unittest.TestCase):
    def test_many_texts(self):
        source = random.Random(133)
        seen = {}
        for _ in range(4000):
            text = self.some_text(source)
            due = SlowSheet().read(text)
            seen[due and due[2]] = seen.get(due and due[2], 0) + 1
            if due is None:
                read_sheet(text)
            else:
                fault(self, text, *due)
        # The bounds of the counts have tests of their own.
        for word in ["end", "spacing", "row", "count", "word", "repeated", "unknown", "zero", None]:
            self.assertGreater(seen.get(word, 0), 25, seen)

    def some_text(self, source):
        rows = ["joint a 0 0", "joint b 1 0", "joint c 1 0", "joint d 0 1", "load w"] if source.random() < 0.7 else []
        for _ in range(source.randint(0, 7)):
            key = source.choice(list(SLOW_ROWS))
            words = key.split()
            place = {"ground": 2, "ask": 1}.get(words[0], 1)
            rest = [self.some_word(source, form) for form in SLOW_ROWS[key] if form != "?"]
            words[1:] = rest[:place - 1] + words[1:] + rest[place - 1:]
            if source.random() < 0.1:
                words[source.randrange(len(words))] = source.choice(["", "x", "A", "0", "fixed", "0/1", "a b", "joint"])
            if source.random() < 0.06:
                words = words[:source.randint(1, len(words))]
            if source.random() < 0.03:
                words = words + ["a"]
            rows.append(" ".join(words))
            if source.random() < 0.1:
                rows.append(source.choice(["", "#", "# x", "#joint a"]))
        return "\n".join(rows) + ("\n" if rows and source.random() < 0.96 else "")

    def some_word(self, source, form):
        if form == "n":
            return source.choice(["a", "b", "c", "d", "w", "v", "fixed", "u1"])
        if form == "r":
            return source.choice(["rod", "tie", "prop"])
        return source.choice(["0", "0", "1", "-1", "1/2", "-7/3", "2"])

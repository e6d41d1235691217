import copy
import random
import unittest

from helpers import (
    HUGE, NO_NAMES, NO_RATIOS, bars, check_error, check_fresh, crossed_square, forces, joints, point, q, triangle,
)
from reference import some_frames
from standframes.certificates import answers, read_certificate, reply, write_certificate
from standframes.counts import kept_bars
from standframes.errors import BadText, OutOfBounds, WrongKind
from standframes.forces import carry, is_carry, own_stresses
from standframes.frames import Frame
from standframes.loads import Load
from standframes.motions import freedom, lock
from standframes.oneway import hold, is_hold, is_steady, steady
from standframes.sheets import Sheet, read_sheet, write_sheet

NO_TEXTS = [None, 1, True, ["motion\n"], ("motion\n",), {}, triangle(), Load([])]


def fault(test, text, line, column, word, read=read_certificate):
    check_error(test, BadText, {"line": line, "column": column, "fault": word}, read, text)


def beam(**roles):
    """A post with a stay."""
    lines = [(*row[:3], roles.get(row[0], "rod")) for row in bars("am", "bm")]
    return Frame(joints(a=(0, 0), b=(3, 0), m=(0, 4)), lines, grounds=[("a", "fixed"), ("b", "fixed")])


class TestWriteCertificate(unittest.TestCase):
    def test_small(self):
        for value, text in [
            (("motion", []), "motion\n"), (("forces", [], []), "forces\n"),
            (("motion", [("a", q(0), q(-1, 2))]), "motion\nmove a 0 -1/2\n"),
            (("forces", [("ab", q(3))], []), "forces\npull ab 3\n"),
            (("forces", [], [("a", q(3), q(7, 12))]), "forces\nreact a 3 7/12\n"),
            (("forces", [("pull", q(0)), ("pull", q(-1))], [("react", q(1), q(2)), ("react", q(1), q(2))]),
             "forces\npull pull 0\npull pull -1\nreact react 1 2\nreact react 1 2\n"),
        ]:
            self.assertEqual(write_certificate(value), text)
            self.assertEqual(read_certificate(text), value)

    def test_bounds(self):
        pull, place = ("ab", q(1)), ("a", q(1), q(2))
        for value in [
            ("forces", [pull] * 60, []), ("forces", [pull] * 30, [place] * 30), ("forces", [], [place] * 60),
            ("motion", [place] * 60),
        ]:
            text = write_certificate(value)
            self.assertEqual(text.count("\n"), 61)
            self.assertEqual(read_certificate(text), value)
        for value in [
            ("forces", [pull] * 61, []), ("forces", [pull] * 30, [place] * 31), ("forces", [pull] * 31, [place] * 30),
            ("forces", [], [place] * 61), ("motion", [place] * 61), ("motion", [place] * 700),
        ]:
            check_error(self, OutOfBounds, {"argument": "certificate"}, write_certificate, value)
        # A wrong item is found first, wherever it stands.
        for value in [("forces", [pull] * 61 + [place], []), ("motion", [place] * 61 + [pull])]:
            check_error(self, WrongKind, {"argument": "certificate"}, write_certificate, value)

    def test_kinds(self):
        pull, place = ("ab", q(1)), ("a", q(1), q(2))
        for value in [
            None, 1, "motion", (), [], {}, ("motion",), ("forces", []), ("forces", [pull]), ["motion", []],
            ("motion", [], []), ("forces", [], [], []), ("Motion", []), ("motion", None), ("motion", ()), (None, []),
            ("forces", (), []), ("forces", [], ()), ("forces", None, None), ("forces", [place], []),
            ("forces", [], [pull]), ("motion", [pull]), ("motion", [None]), ("motion", [["a", q(1), q(2)]]),
            ("sags", [], []), (True, []), ("works", [], []), ("motion", {}), ("forces", [["ab", q(1)]], []),
            ("steady", [], []), ("move", []), triangle(), Load([]), ("forces", place, []), ("motion", "a"),
            ("forces", [("ab",)], []), ("forces", [("ab", q(1), q(1), q(1))], []), ("motion", [("a", q(1))]),
            ("motion", [()]), ("motion", [("a", q(1), q(1), q(1))]), ("forces", [()], []),
        ]:
            check_error(self, WrongKind, {"argument": "certificate"}, write_certificate, value)
        for value in NO_NAMES:
            for one in [("forces", [(value, q(1))], []), ("forces", [], [(value, q(1), q(1))]),
                        ("motion", [(value, q(1), q(1))])]:
                check_error(self, WrongKind, {"argument": "certificate"}, write_certificate, one)
        for value in NO_RATIOS:
            for one in [("forces", [("a", value)], []), ("forces", [], [("a", value, q(1))]),
                        ("forces", [], [("a", q(1), value)]), ("motion", [("a", value, q(1))]),
                        ("motion", [("a", q(1), value)])]:
                check_error(self, WrongKind, {"argument": "certificate"}, write_certificate, one)

    def test_long_numbers(self):
        text = write_certificate(("motion", [("a", (HUGE, 1), (-1, HUGE))]))
        self.assertEqual(text, f"motion\nmove a {HUGE} -1/{HUGE}\n")
        fault(self, text, 2, 8, "word")
        top = 10 ** 400 - 1
        value = ("forces", [("ab", (-top, 1))], [("a", (1, top), (top, top - 1))])
        self.assertEqual(read_certificate(write_certificate(value)), value)

    def test_answers_there_and_back(self):
        source = random.Random(141)
        for frame, load in some_frames(120, 142):
            call, judge = source.choice([(carry, is_carry), (hold, is_hold)])
            answer = call(frame, load)
            found = read_certificate(write_certificate(answer))
            self.assertEqual(found, answer)
            self.assertIs(judge(frame, load, found), True)

    def test_nothing_changes(self):
        value = ("forces", [("ab", q(1))], [("a", q(1), q(2))])
        before = copy.deepcopy(value)
        text = write_certificate(value)
        self.assertEqual(value, before)
        check_fresh(self, lambda: read_certificate(text))
        check_fresh(self, lambda: read_certificate("motion\nmove a 1 2\nmove a 1 2\n"))
        self.assertEqual(write_certificate(value), text)


class TestReadCertificate(unittest.TestCase):
    def test_skipped_lines(self):
        text = "\n# what holds\nforces\n\npull ab 3\n#react a 1 1\npull fixed -1/2\nreact rod 0 0\n\n"
        due = ("forces", [("ab", q(3)), ("fixed", q(-1, 2))], [("rod", q(0), q(0))])
        self.assertEqual(read_certificate(text), due)

    def test_without_rows(self):
        for text, line in [("", 1), ("\n", 2), ("#\n", 2), ("\n\n# x\n\n", 5)]:
            fault(self, text, line, 1, "row")
        for text, line, column in [("#", 1, 2), ("\n# x", 2, 4), ("motion", 1, 7), ("x  y", 1, 5),
                                   ("motion\nmove a 0 0", 2, 11)]:
            fault(self, text, line, column, "end")

    def test_order_of_rows(self):
        good = {"forces": "forces", "motion": "motion", "pull": "pull ab 1", "react": "react a 1 1",
                "move": "move a 1 1"}
        for words, line in [
            ("pull", 1), ("react", 1), ("move", 1), ("forces forces", 2), ("forces motion", 2), ("motion forces", 2),
            ("motion motion", 2), ("forces move", 2), ("motion pull", 2), ("motion react", 2), ("forces react pull", 3),
            ("forces pull move", 3), ("forces pull forces", 3), ("forces react forces", 3),
            ("motion move move pull", 4),
            ("forces pull react pull", 4), ("motion move motion", 3), ("forces react move", 3),
            ("motion move react", 3), ("forces react motion", 3), ("motion move forces", 3), ("forces pull motion", 3),
        ]:
            text = "".join(good[word] + "\n" for word in words.split())
            fault(self, text, line, 1, "row")
        for word in ["x", "Forces", "joint", "ask", "undo", "1", "-", "force", "pulls", "moves", "pull-"]:
            fault(self, f"{word}\n", 1, 1, "row")
            fault(self, f"#\nforces\n{word} a 1\n", 3, 1, "row")
            fault(self, f"motion\n{word} a 1 1\n", 2, 1, "row")

    def test_faults(self):
        for rows, line, column, word in [
            ("forces x", 1, 8, "count"), ("motion motion", 1, 8, "count"), ("motion ", 1, 8, "spacing"),
            (" motion", 1, 1, "spacing"), ("forces\npull", 2, 5, "count"), ("forces\npull ab", 2, 8, "count"),
            ("forces\npull ab 1 2", 2, 11, "count"), ("forces\nreact a 1", 2, 10, "count"),
            ("forces\nreact a 1 2 3", 2, 13, "count"), ("motion\nmove a 1", 2, 9, "count"),
            ("motion\nmove a 1 2 3 4", 2, 12, "count"), ("motion\nmove", 2, 5, "count"),
            ("forces\npull AB x", 2, 6, "word"), ("forces\npull ab x", 2, 9, "word"),
            ("forces\nreact 1 x y", 2, 7, "word"), ("forces\nreact a x y", 2, 9, "word"),
            ("forces\nreact a 0 y", 2, 11, "word"), ("motion\nmove A 0 0", 2, 6, "word"),
            ("motion\nmove a 0 -0", 2, 10, "word"), ("motion\nmove a  0 0", 2, 8, "spacing"),
            ("motion\nmove a 1/2 2/4", 2, 12, "word"), ("forces\npull ab 0x1", 2, 9, "word"),
            ("forces x\npull", 1, 8, "count"), ("pull ab 1 1 1 1", 1, 1, "row"), ("motion\npull A A A A", 2, 1, "row"),
            ("motion\nmove a 0 0\n \n", 3, 1, "spacing"),
        ]:
            fault(self, rows.rstrip("\n") + "\n", line, column, word)
        # Zeros are numbers like any other, and names may be words of the rows.
        self.assertEqual(read_certificate("motion\nmove move 0 0\n"), ("motion", [("move", q(0), q(0))]))

    def test_many(self):
        pulls, reacts = "pull ab 1\n", "react a 1 1\n"
        for text in [pulls * 60, pulls * 10 + reacts * 50, reacts * 60]:
            text = "forces\n" + text
            self.assertEqual(len(read_certificate(text)[1] + read_certificate(text)[2]), 60)
            fault(self, text + "\n" + reacts, 63, 1, "many")
            fault(self, text + "react a 1 x\n", 62, 11, "word")
            fault(self, text + "react a 1\n", 62, 10, "count")
            fault(self, text + "move a 1 1\n", 62, 1, "row")
        fault(self, "forces\n" + pulls * 61, 62, 1, "many")
        fault(self, "forces\n" + pulls * 100, 62, 1, "many")
        fault(self, "motion\n" + "move a 1 1\n" * 61, 62, 1, "many")
        self.assertEqual(len(read_certificate("#\nmotion\n" + "move a 1 1\n" * 60)[1]), 60)

    def test_errors(self):
        for value in NO_TEXTS:
            check_error(self, WrongKind, {"argument": "text"}, read_certificate, value)
            check_error(self, WrongKind, {"argument": "text"}, reply, value)


class TestAnswers(unittest.TestCase):
    def test_small(self):
        frame = beam(bm="tie")
        load, other = Load(forces(m=(-1, -1))), Load(forces(m=(1, 0)))
        asks = [("carry", "w"), ("hold", "w"), ("hold", "v"), ("lock", "a", "m"), ("lock", "b", "b"), ("steady",),
                ("freedom",), ("kept",), ("stresses",), ("carry", "w")]
        found = answers(Sheet(frame, [("w", load), ("v", other)], asks))
        self.assertEqual(found, [
            carry(frame, load), hold(frame, load), hold(frame, other), lock(frame, "a", "m"), lock(frame, "b", "b"),
            steady(frame), freedom(frame), kept_bars(frame), own_stresses(frame), carry(frame, load)])
        self.assertEqual([one[0] for one in found[:6]], ["forces", "forces", "motion", "forces", "forces", "motion"])
        self.assertEqual(answers(Sheet(frame, [], [])), [])

    def test_many(self):
        for frame, load in some_frames(60, 143):
            names = [row[0] for row in frame.joints]
            asks = [("freedom",), ("kept",), ("steady",), ("stresses",), ("carry", "w"), ("hold", "w")]
            asks += [("lock", names[0], names[-1])] if names else []
            sheet = Sheet(frame, [("w", load)], asks)
            found = answers(sheet)
            self.assertEqual(found[:2], [freedom(frame), kept_bars(frame)])
            self.assertIs(is_steady(frame, found[2]), True)
            self.assertEqual(found[3:6], [own_stresses(frame), carry(frame, load), hold(frame, load)])
            self.assertEqual(found[6:], [lock(frame, names[0], names[-1])] if names else [])
            lines = [
                f"freedom {found[0]}", " ".join(["kept", *found[1]]), f"steady {found[2][0]}",
                f"stresses {len(found[3])}", f"carry w {found[4][0]}", f"hold w {found[5][0]}"]
            if names:
                lines.append(f"lock {names[0]} {names[-1]} {found[6][0]}")
            self.assertEqual(reply(write_sheet(sheet)), "".join(line + "\n" for line in lines))

    def test_errors(self):
        for value in NO_TEXTS + ["ask freedom\n"]:
            check_error(self, WrongKind, {"argument": "sheet"}, answers, value)

    def test_fresh(self):
        sheet = Sheet(crossed_square(), [], [("kept",), ("kept",), ("stresses",), ("stresses",), ("lock", "a", "b")])
        check_fresh(self, lambda: answers(sheet))


class TestReply(unittest.TestCase):
    def test_small(self):
        for text, due in [
            ("", ""), ("#\n", ""), ("joint a 0 0\n", ""), ("ask kept\n", "kept\n"), ("ask freedom\n", "freedom 0\n"),
            ("ask steady\n", "steady steady\n"), ("ask stresses\n", "stresses 0\n"),
            ("load w\nask hold w\nask carry w\n", "hold w forces\ncarry w forces\n"),
            ("joint a 0 0\nload w\npush w a 1 0\nask freedom\nask carry w\n", "freedom 2\ncarry w motion\n"),
            ("joint a 0 0\nask lock a a\nask steady\nask lock a a\n",
             "lock a a forces\nsteady motion\nlock a a forces\n"),
            ("joint a 0 0\njoint b 1 0\nask lock a b\n", "lock a b motion\n"),
            ("load kept\nload freedom\nload stresses\nask carry kept\nask hold freedom\nask carry stresses\n",
             "carry kept forces\nhold freedom forces\ncarry stresses forces\n"),
        ]:
            self.assertEqual(reply(text), due)

    def test_square(self):
        frame = crossed_square(grounds=[("a", "fixed"), ("b", point(1, 0))])
        text = write_sheet(Sheet(frame, [("w", Load(forces(c=(1, 0))))], []))
        text += "ask kept\nask stresses\nask freedom\nask hold w\nask lock a c\nask steady\n"
        self.assertEqual(
            reply(text),
            "kept ab bc cd da ac\nstresses 1\nfreedom 0\nhold w forces\nlock a c forces\nsteady steady\n")

    def test_long(self):
        rows = "".join(f"joint a{k} {k} {k * k}\n" for k in range(12))
        self.assertEqual(reply(rows + "ask freedom\nask kept\n" * 6), "freedom 24\nkept\n" * 6)

    def test_faults(self):
        for text, line, column, word in [
            ("ask freedom", 1, 12, "end"), ("forces\n", 1, 1, "row"), ("ask carry w\n", 1, 11, "unknown"),
            ("load w\nask carry w w\n", 2, 13, "count"), ("ask free\n", 1, 5, "word"), (" \n", 1, 1, "spacing"),
        ]:
            fault(self, text, line, column, word, reply)

    def test_equal_calls(self):
        text = "joint a 0 0\nask freedom\n"
        self.assertEqual(reply(text), reply(text))
        self.assertEqual(read_sheet(text), read_sheet(text))

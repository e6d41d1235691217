import copy
import random
import unittest

from helpers import HUGE, check_error, check_fresh, forces, joints, point, q, triangle
from reference import slow_lines, slow_row, some_frames
from standframes.cranes import order_deeds
from standframes.desks import read_deeds, run_rows, write_deeds
from standframes.errors import BadText, FrameError, OutOfBounds, WrongKind
from standframes.frames import Frame
from standframes.loads import Load
from standframes.yards import Yard
from test_yards import NO_DEEDS, NO_RULES, base, look, setting, undone

NO_TEXTS = [None, 1, True, ["undo\n"], ("undo\n",), {}, triangle(), Load([]), Yard()]
EVERY = [
    (setting("a", 0, 0), "joint a 0 0 none"), (setting("a", 1, -2, "fixed"), "joint a 1 -2 fixed"),
    (setting("a", 0, 0, point(0, -1)), "joint a 0 0 slide 0 -1"),
    (("joint", "a", q(1, 2), q(-7, 3), (q(2, 3), q(0)), ()), "joint a 1/2 -7/3 slide 2/3 0"),
    (setting("b", 0, 0, None, ("ab", "a", "rod")), "joint b 0 0 none ab a rod"),
    (setting("b", 0, 0, "fixed", ("ab", "a", "tie"), ("n", "m", "prop")), "joint b 0 0 fixed ab a tie n m prop"),
    (setting("b", 0, 0, point(1, 1), ("none", "fixed", "tie"), ("rod", "rod", "rod"), ("x", "b", "rod")),
     "joint b 0 0 slide 1 1 none fixed tie rod rod rod x b rod"),
    (("bar", "n", "a", "b", "rod"), "bar n a b rod"), (("bar", "bar", "bar", "bar", "prop"), "bar bar bar bar prop"),
    (("ground", "a", None), "ground a none"), (("ground", "none", "fixed"), "ground none fixed"),
    (("ground", "a", (q(-1, 5), q(2))), "ground a slide -1/5 2"),
    (("load", "a", q(0), q(0)), "load a 0 0"), (("load", "load", q(-3, 4), q(10)), "load load -3/4 10"),
    (("cut", "ab"), "cut ab"), (("drop", "a"), "drop a"), (("drop", "undo"), "drop undo"), (("cut", "cut"), "cut cut"),
]


def fault(test, text, line, column, word):
    told = {"line": line, "column": column, "fault": word}
    check_error(test, BadText, told, run_rows, text)
    check_error(test, BadText, told, read_deeds, text)


class TestText(unittest.TestCase):
    def test_every_deed(self):
        for deed, row in EVERY:
            self.assertEqual(write_deeds([deed]), row + "\n")
            self.assertEqual(read_deeds(row + "\n"), [deed])
        deeds = [deed for deed, _ in EVERY]
        text = "".join(row + "\n" for _, row in EVERY)
        self.assertEqual((write_deeds(deeds), read_deeds(text)), (text, deeds))
        self.assertEqual((write_deeds([]), read_deeds("")), ("", []))
        # The number of rows has no bound, and the deeds need not fit together.
        self.assertEqual(read_deeds("cut x\n" * 300), [("cut", "x")] * 300)
        self.assertEqual(write_deeds([("cut", "x")] * 300), "cut x\n" * 300)

    def test_many_bars(self):
        deed = setting("z", 1, 1, None, *[(f"b{k}", f"a{k}", "rod") for k in range(40)])
        self.assertEqual(read_deeds(write_deeds([deed])), [deed])

    def test_skipped_lines(self):
        text = "# a yard\n\njoint a 0 0 none\n#cut a\n\ncut b\n#\n"
        self.assertEqual(read_deeds(text), [setting("a", 0, 0), ("cut", "b")])
        for text in ["\n", "#\n", "\n\n# x\n"]:
            self.assertEqual(read_deeds(text), [])
            self.assertEqual(run_rows(text), (Yard(), []))

    def test_long_numbers(self):
        top = 10 ** 400 - 1
        deeds = [("joint", "a", (top, 1), (-top, top - 1), ((1, top), (top, 1)), ()),
            ("load", "a", (-1, top), (top, 1))]
        self.assertEqual(read_deeds(write_deeds(deeds)), deeds)
        text = write_deeds([("load", "a", (HUGE, 1), (-1, HUGE))])
        self.assertEqual(text, f"load a {HUGE} -1/{HUGE}\n")
        fault(self, text, 1, 8, "word")
        for row, column in [(f"joint a {10 ** 400} 0 none", 9), (f"joint a 0 1/{10 ** 400} none", 11),
                            (f"ground a slide 0 -{10 ** 400}", 18), (f"joint a 0 0 slide {10 ** 400} 0", 19)]:
            fault(self, row + "\n", 1, column, "word")

    def test_end(self):
        for text, line, column in [("cut a", 1, 6), ("#", 1, 2), ("cut a\n ", 2, 2), ("x  y\n\n# z", 3, 4),
                                   ("undo", 1, 5), ("joint\njoint", 2, 6)]:
            fault(self, text, line, column, "end")

    def test_spacing(self):
        for row, column in [(" ", 1), (" cut a", 1), ("cut  a", 5), ("cut a ", 7), ("x  ", 3), ("undo ", 6),
                            ("joint a 0 0 none ab a  rod", 23), (" # x", 1)]:
            fault(self, f"\n{row}\n", 2, column, "spacing")

    def test_row(self):
        for word in ["Cut", "x", "push", "ask", "forces", "move", "slide", "none", "0", "~", "joints", "undone", "-"]:
            fault(self, f"cut a\n{word} a\n", 2, 1, "row")
        for row in ["undo", "redo", "undo x", "redo a b"]:
            check_error(self, BadText, {"line": 2, "column": 1, "fault": "row"}, read_deeds, f"cut a\n{row}\n")
        check_error(self, BadText, {"line": 1, "column": 6, "fault": "spacing"}, read_deeds, "undo  x\n")

    def test_count(self):
        for row, column in [
            ("joint", 6), ("joint a", 8), ("joint a 0", 10), ("joint a 0 0", 12), ("joint ? ? ?", 12),
            ("joint a 0 0 slide", 18), ("joint a 0 0 slide 1", 20), ("joint a 0 0 slide ?", 20),
            ("joint a 0 0 none b", 19), ("joint a 0 0 none b c", 21), ("joint a 0 0 fixed b c rod d", 28),
            ("joint a 0 0 none b c rod d e", 29), ("joint a 0 0 slide 0 0 b", 24), ("joint a 0 0 slide 1 0 b c", 26),
            ("joint A x y none 1 2", 21), ("joint a 0 0 fixed 0 0", 22), ("joint a 0 0 slide 1 2 b c rod d", 32),
            ("joint a 0 0 none b c rod " + "d e rod " * 20 + "f", 187), ("bar", 4), ("bar n a b", 10),
            ("bar n a b rod x", 15), ("ground", 7), ("ground a", 9), ("ground ?", 9), ("ground a none x", 15),
            ("ground a fixed 1 0", 16), ("ground a slide", 15), ("ground a slide 1", 17), ("ground a slide 1 0 0", 20),
            ("load", 5), ("load a 0", 9), ("load a 0 0 0", 12), ("cut", 4), ("cut a b", 7), ("drop", 5),
            ("drop a b c", 8), ("cut ? ?", 7), ("load ? ? ? ?", 12),
        ]:
            fault(self, f"cut a\n#\n{row}\n", 3, column, "count")
        for row in ["undo x", "redo x", "undo undo", "redo 1 2"]:
            check_error(self, BadText, {"line": 1, "column": 6, "fault": "count"}, run_rows, f"{row}\n")

    def test_word(self):
        for row, column in [
            ("joint A 0 0 none", 7), ("joint a x 0 none", 9), ("joint a 0 y none", 11), ("joint a 0 0 None", 13),
            ("joint A x y free", 13), ("joint A x y free 1 2 3 4", 13), ("joint a 0 0 a", 13), ("joint A x y none", 7),
            ("joint a 0 0 slide 0 0", 19), ("joint a 0 0 slide x 0", 19), ("joint a 0 0 slide 0 y", 21),
            ("joint a 0 0 slide x y", 19), ("joint a 0 0 slide 0 0 B c rod", 19), ("joint a 0 0 slide 0 -0", 21),
            ("joint a 0 0 slide 1 0 B c rod", 23), ("joint a 0 0 none b C rod", 20), ("joint a 0 0 none b c Rod", 22),
            ("joint a 0 0 none b c rod d e f", 30), ("joint a 0 0 none B C D", 18), ("joint a 0 0 fixed slide 1 0", 25),
            ("joint a 0 0 none b c rod D e tie", 26), ("joint a 0 -0 fixed", 11), ("bar N a b rod", 5),
            ("bar n A b rod", 7), ("bar n a B rod", 9), ("bar n a b Rod", 11), ("bar n a b fixed", 11),
            ("ground A none", 8), ("ground a nonex", 10), ("ground A x y", 10), ("ground a free", 10),
            ("ground a slide 0 0", 16), ("ground A slide 0 0", 8), ("ground a slide 0 01", 18),
            ("ground a slide 1/1 0", 16),
            ("load A 0 0", 6), ("load a x 0", 8), ("load a 0 2/4", 10), ("load 1 x y", 6), ("cut A", 5), ("cut 1", 5),
            ("drop abcdefghi", 6), ("drop -", 6),
        ]:
            fault(self, f"cut a\n#\n{row}\n", 3, column, "word")

    def test_no_other_faults(self):
        # What a sheet would refuse, a desk reads.
        text = "joint a 0 0 none x x rod\njoint a 0 0 none\nbar n a a rod\nbar n a a rod\nground z none\ncut z\n"
        text = text + "joint a 0 0 none\n" * 50
        self.assertEqual(len(read_deeds(text)), 56)

    def test_order_of_faults(self):
        for text, line, column, word in [
            ("x\ncut  a\n", 1, 1, "row"), ("cut A\nx\n", 1, 5, "word"), ("joint A x y none b\n", 1, 19, "count"),
            ("joint A x y zone  b\n", 1, 18, "spacing"), ("cut a\ncut A b\ncut\n", 2, 7, "count"),
            ("x  \ny", 2, 2, "end"),
        ]:
            fault(self, text, line, column, word)

    def test_errors(self):
        for value in NO_TEXTS:
            check_error(self, WrongKind, {"argument": "text"}, read_deeds, value)
            check_error(self, WrongKind, {"argument": "text"}, run_rows, value, rule=7)
        good = ("cut", "a")
        for value in [None, 1, "cut a\n", (), (good,), {}, good, Yard(), *[[good, one] for one in NO_DEEDS]]:
            check_error(self, WrongKind, {"argument": "deeds"}, write_deeds, value)
        for value in NO_RULES:
            check_error(self, WrongKind, {"argument": "rule"}, run_rows, "wrong", rule=value)

    def test_there_and_back(self):
        source = random.Random(221)
        for frame, load in some_frames(150, 222):
            order = source.sample([row[0] for row in frame.joints], len(frame.joints))
            deeds = order_deeds(frame, load, order)
            text = write_deeds(deeds)
            self.assertEqual(read_deeds(text), deeds)
            yard, outcomes = run_rows(text)
            self.assertEqual(yard, Yard.replayed(deeds, "free"))
            self.assertEqual(outcomes, [(k + 1, "done") for k in range(len(deeds))])

    def test_nothing_changes(self):
        deeds = [deed for deed, _ in EVERY]
        before = copy.deepcopy(deeds)
        text = write_deeds(deeds)
        self.assertEqual(deeds, before)
        check_fresh(self, lambda: read_deeds(text))
        check_fresh(self, lambda: run_rows(text)[1])
        self.assertEqual(run_rows(text)[0], run_rows(text)[0])
        self.assertIsNot(run_rows(text)[0], run_rows(text)[0])


SLOW_ROWS = {
    "bar": "nnnr", "ground none": "n?", "ground fixed": "n?", "ground slide": "n?##", "load": "n##", "cut": "n",
    "drop": "n", "undo": "", "redo": "", "joint none": "n##?+", "joint fixed": "n##?+", "joint slide": "n##?##+",
}


def slow_fault(text):
    """The first fault of a text of rows, by the words of points 42 and 65, or None."""
    rows = slow_lines(text)
    if isinstance(rows, tuple):
        return rows
    faults = [(at, slow_row(line, SLOW_ROWS, {"ground": 2, "joint": 4})) for at, line in rows]
    return next(((at, *found) for at, found in faults if found), None)


class TestAgainstSlow(unittest.TestCase):
    def test_many_texts(self):
        source = random.Random(223)
        seen = {}
        for _ in range(4000):
            text = "".join(self.some_row(source) + "\n" for _ in range(source.randint(1, 2)))
            text = text if source.random() < 0.95 else text[:-1]
            due = slow_fault(text)
            seen[due and due[2]] = seen.get(due and due[2], 0) + 1
            if due is None:
                _, outcomes = run_rows(text)
                self.assertEqual(len(outcomes), len([row for row in text.split("\n") if row]))
            else:
                check_error(self, BadText, {"line": due[0], "column": due[1], "fault": due[2]}, run_rows, text)
        for word in ["end", "spacing", "row", "count", "word", None]:
            self.assertGreater(seen.get(word, 0), 60, seen)

    def some_row(self, source):
        key = source.choice(list(SLOW_ROWS))
        words = key.split()
        shape = SLOW_ROWS[key].replace("+", "nnr" * source.randint(0, 2))
        made = [words[1] if form == "?" else self.some_word(source, form) for form in shape]
        words = [words[0], *made]
        if source.random() < 0.2:
            words[source.randrange(len(words))] = source.choice(["", "x", "A", "0", "fixed", "0/1", "slide", "joint",
                "rod"])
        if source.random() < 0.12:
            words = words[:source.randint(1, len(words))]
        if source.random() < 0.08:
            words = words + source.choice([["a"], ["a", "b"], ["a", "b", "rod"], ["0", "0"]])
        return " ".join(words)

    def some_word(self, source, form):
        if form == "n":
            return source.choice(["a", "b", "slide", "none", "u1"])
        return source.choice(["rod", "tie", "prop"] if form == "r" else ["0", "0", "1", "-1/2"])


class TestRunRows(unittest.TestCase):
    def test_small(self):
        yard, outcomes = run_rows("joint a 0 0 fixed\ncut b\nundo\nundo\n")
        self.assertEqual(outcomes, [(1, "done"), (2, "unknown"), (3, "undone"), (4, "empty")])
        self.assertEqual((yard.records, undone(yard)), ([], [setting("a", 0, 0, "fixed")]))
        self.assertEqual(run_rows(""), (Yard(), []))
        yard, outcomes = run_rows(
            "joint undo 0 0 none\njoint redo 1 0 none undo undo rod\ncut redo\ndrop redo\ncut undo\n")
        self.assertEqual([word for _, word in outcomes], ["done", "done", "unknown", "done", "unknown"])
        for rule in ("free", "carry", "hold", "stand"):
            yard, outcomes = run_rows("", rule=rule)
            self.assertEqual((yard, outcomes), (Yard(rule=rule), []))
            self.assertIsInstance(yard, Yard)

    def test_every_outcome(self):
        text = """joint a 0 0 fixed
# the second joint

joint b 4 0 fixed ab a rod
joint c 0 3 none ac a rod bc b tie
joint a 0 0 none
bar ba b a rod
bar n c z rod
bar n c c rod
joint d 0 0 fixed n a rod
redo
ground a none
cut ab
undo
redo
undo
load c 1 1
redo
drop a
joint d 1 1 none
undo
redo
"""
        yard, outcomes = run_rows(text, rule="stand")
        self.assertEqual(outcomes, [
            (1, "done"), (4, "done"), (5, "done"), (6, "repeated"), (7, "repeated"), (8, "unknown"), (9, "zero"),
            (10, "zero"), (11, "empty"), (12, "unsafe"), (13, "done"), (14, "undone"), (15, "redone"), (16, "undone"),
            (17, "done"), (18, "empty"), (19, "unsafe"), (20, "unsafe"), (21, "undone"), (22, "redone")])
        self.assertEqual(yard.rule, "stand")
        self.assertEqual(yard.records[:3], base().records)
        self.assertEqual(yard.load, Load(forces(c=(1, 1))))
        free = run_rows(text)[0]
        self.assertEqual([row[0] for row in free.frame.joints], ["b", "c", "d"])

    def test_bounds(self):
        text = "".join(f"joint j{k} {k} 0 fixed\n" for k in range(14))
        yard, outcomes = run_rows(text)
        self.assertEqual([word for _, word in outcomes], ["done"] * 12 + ["bounds"] * 2)
        text = "joint a 0 0 none\n" + "load a 0 0\n" * 39 + "cut zz\nundo\ncut zz\nredo\nredo\n"
        yard, outcomes = run_rows(text, rule="carry")
        self.assertEqual([word for _, word in outcomes][39:],
            ["done", "bounds", "undone", "unknown", "redone", "empty"])
        self.assertEqual(yard.count(), 40)
        many = "joint b 1 1 none " + " ".join(f"n{k} a rod" for k in range(31)) + "\n"
        self.assertEqual(run_rows("joint a 0 0 none\n" + many)[1], [(1, "done"), (2, "bounds")])
        self.assertEqual(run_rows("joint a 0 0 none\n" + many.replace(" n30 a rod", ""))[1],
            [(1, "done"), (2, "repeated")])

    def test_refused_rows_change_nothing(self):
        good = write_deeds(base().records)
        # What was undone stays for a redo, also if rows between are refused.
        text = good + "undo\ncut zz\nbar n a a rod\njoint a 0 0 none\nground a none\nredo\n"
        yard, outcomes = run_rows(text, rule="stand")
        self.assertEqual([word for _, word in outcomes[3:]],
            ["undone", "unknown", "zero", "repeated", "unsafe", "redone"])
        self.assertEqual(look(yard), look(base("stand")))

    def test_reads_all_first(self):
        for text, line, column, word in [("cut a\ncut a\ncut\n", 3, 4, "count"),
            ("joint a 0 0 none\nxyz\n", 2, 1, "row")]:
            check_error(self, BadText, {"line": line, "column": column, "fault": word}, run_rows, text)

    def test_against_a_yard(self):
        source = random.Random(224)
        seen = {}
        for rule in ["free", "carry", "hold", "stand"] * 10:
            rows = [self.some_row(source) for _ in range(40)]
            text = "".join(row + "\n" for row in rows)
            yard, outcomes = run_rows(text, rule=rule)
            due = Yard(rule=rule)
            told = [(k + 1, self.slow_outcome(due, row)) for k, row in enumerate(rows)]
            self.assertEqual(outcomes, told)
            self.assertEqual((look(yard), undone(yard)), (look(due), undone(due)))
            for _, word in outcomes:
                seen[word] = seen.get(word, 0) + 1
        self.assertTrue(len(seen) == 8 and min(seen.values()) > 5, seen)

    def slow_outcome(self, yard, row):
        words = {"RepeatedName": "repeated", "UnknownName": "unknown", "ZeroBar": "zero", "Unsafe": "unsafe",
                 "NothingToUndo": "empty", "NothingToRedo": "empty", "OutOfBounds": "bounds"}
        try:
            if row in ("undo", "redo"):
                getattr(yard, row)()
                return row[:-1] + "one" if row == "undo" else "redone"
            yard.work(read_deeds(row + "\n")[0])
            return "done"
        except FrameError as error:
            return words[error.__class__.__name__]

    def some_row(self, source):
        name, other, third = source.sample("abcd", 3)
        bar = source.choice("klmn")
        x, y = source.randint(0, 2), source.randint(0, 1)
        across = source.choice(["none", "fixed", "fixed", "slide 1 0", "slide 0 -1/2"])
        return source.choice([
            f"joint {name} {x} {y} {across}", f"joint {name} {x} {y} fixed",
            f"joint {name} {x} {y} {across} {bar} {other} tie",
            f"joint {name} {x} {y} none {bar} {other} rod x {third} rod", f"bar {bar} {name} {other} rod",
            f"ground {name} {across}", f"load {name} {x - 1} {y}", f"cut {bar}", f"drop {name}", "undo", "redo", "undo",
        ])

    def test_default(self):
        text = "joint a 0 0 none\nload a 1 0\n"
        self.assertEqual(run_rows(text), run_rows(text, rule="free"))
        self.assertEqual(run_rows(text, rule="carry")[1], [(1, "done"), (2, "unsafe")])
        self.assertEqual(run_rows(text)[0].frame, Frame(joints(a=(0, 0)), []))
        self.assertFalse(issubclass(BadText, OutOfBounds))

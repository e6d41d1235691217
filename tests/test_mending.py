import copy
import itertools
import random
import unittest
from fractions import Fraction

from helpers import (
    HUGE, NO_FRAMES, NO_NAMES, NO_RATIOS, bars, check_error, check_fresh, crossed_square, forces, fraction, joints,
    point, q, triangle,
)
from reference import check_forces, check_grounds_kept, columns, rank, slow_power, slow_rates, some_frames
from standframes.errors import OutOfBounds, RepeatedName, UnknownName, WrongKind, ZeroBar
from standframes.forces import carry
from standframes.frames import Frame
from standframes.loads import Load
from standframes.mending import (
    is_mend, is_spare, is_thin, mend, offered, replacing, spare, spare_bars, thin,
)
from standframes.motions import freedom, motions

NO_COSTS = [*NO_RATIOS, q(-1), q(-1, 9)]
NO_OFFERS = [
    None, 1, (), {}, "ab", [None], [()], [("n", "a", "b")], [["n", "a", "b", (1, 1)]], [("n", "a", "b", (1, 1), 1)],
    [("n", "a", (1, 1), "b")], [("n", "a", "b", (1, 1)), None], (("n", "a", "b", (1, 1)),), [("n", "a", "b", "rod")],
    [("n", "a", "b", "rod", (1, 1))], [((1, 1), "a", "b", "n")],
]


def slow_freedom(frame):
    return 2 * len(frame.joints) - rank(columns(frame))


def without(frame, gone):
    return Frame(frame.joints, [row for row in frame.bars if row[0] not in gone], grounds=frame.grounds)


def whole_frame(frame, offers):
    return Frame(frame.joints, frame.bars + [(*row[:3], "rod") for row in offers], grounds=frame.grounds)


def some_costs(frame, source):
    return [(row[0], q(source.randint(0, 3), source.randint(1, 2))) for row in frame.bars]


def some_offers(frame, source, most=6):
    names = [row[0] for row in frame.joints]
    spot = {row[0]: row[1:] for row in frame.joints}
    joined = {frozenset(row[1:3]) for row in frame.bars}
    pairs = [pair for pair in itertools.combinations(names, 2)
             if frozenset(pair) not in joined and spot[pair[0]] != spot[pair[1]]]
    told = source.sample(pairs, source.randint(0, min(most, len(pairs))))
    names = source.sample([f"n{k}" for k in range(len(told))], len(told))
    return [(name, *source.sample(pair, 2), q(source.randint(0, 3), source.randint(1, 2)))
            for name, pair in zip(names, told)]


def square():
    """Four bars on two fixed joints, which still move."""
    return Frame(joints(a=(0, 0), b=(1, 0), c=(1, 1), d=(0, 1)), bars("ab", "bc", "cd", "da"),
                 grounds=[("a", "fixed"), ("b", "fixed")])


class TestSpare(unittest.TestCase):
    def test_small(self):
        frame = crossed_square()
        self.assertEqual(spare_bars(frame), ["ab", "bc", "cd", "da", "ac", "bd"])
        word, pulls, reactions = spare(frame, "ac")
        self.assertEqual((word, dict(pulls)["ac"], reactions), ("spare", q(1), []))
        self.assertEqual(spare_bars(square()), ["ab"])
        self.assertEqual(spare(square(), "ab"), (
            "spare", [("ab", q(1)), ("bc", q(0)), ("cd", q(0)), ("da", q(0))], forces(a=(-1, 0), b=(1, 0))))
        word, velocities = spare(square(), "cd")
        self.assertEqual(word, "needed")
        check_grounds_kept(self, square(), velocities)
        self.assertEqual(slow_rates(square(), velocities), {"ab": 0, "bc": 0, "cd": 1, "da": 0})
        self.assertEqual(spare_bars(triangle()), [])
        self.assertEqual(spare_bars(Frame([], [])), [])

    def test_many(self):
        words = {"spare": 0, "needed": 0}
        for frame, load in some_frames(250, 181):
            due = []
            held = carry(frame, load)
            for bar, _, _, _ in frame.bars:
                answer = spare(frame, bar)
                words[answer[0]] += 1
                self.assertIs(is_spare(frame, bar, answer), True)
                if slow_freedom(without(frame, [bar])) == slow_freedom(frame):
                    due.append(bar)
                    word, pulls, reactions = answer
                    self.assertEqual((word, dict(pulls)[bar]), ("spare", q(1)))
                    check_forces(self, frame, Load([]), pulls, reactions)
                else:
                    self.assertEqual(answer[0], "needed")
                    check_grounds_kept(self, frame, answer[1])
                    self.assertEqual(slow_rates(frame, answer[1]), {row[0]: row[0] == bar for row in frame.bars})
                    if held[0] == "forces":
                        self.assertEqual(slow_power(load, answer[1]), fraction(dict(held[1])[bar]))
            self.assertEqual(spare_bars(frame), due)
        self.assertTrue(min(words.values()) > 100, words)

    def test_is_spare(self):
        frame = crossed_square()
        good = spare(frame, "ab")
        word, pulls, reactions = good
        self.assertIs(is_spare(frame, "ab", good), True)
        self.assertIs(is_spare(frame, "cd", good), True)
        self.assertIs(is_spare(frame, "ac", good), False)
        moves = forces(a=(0, 0), b=(0, 0), c=(0, 0), d=(0, 0))
        for answer in [
            None, 1, "spare", (), (word,), list(good), (*good, 1), (word, pulls), ("needed", pulls, reactions),
            ("Spare", pulls, reactions), (word, pulls[::-1], reactions), (word, tuple(pulls), reactions), frame, {},
            (word, pulls, ()), (word, pulls, [("a", q(0), q(0))]), (word, None, None), ("needed", moves),
            ("spare", moves), (word, reactions, pulls), (None, pulls, reactions), (word, pulls[:5], reactions),
            (word, [(name, q(2 * pull[0], pull[1])) for name, pull in pulls], reactions),
            (word, [(name, q(name == "ab")) for name, _ in pulls], reactions),
        ]:
            self.assertIs(is_spare(frame, "ab", answer), False)
        for value in NO_RATIOS:
            self.assertIs(is_spare(frame, "ab", (word, [("ab", value), *pulls[1:]], reactions)), False)
            self.assertIs(is_spare(frame, "ac", (word, [*pulls[:4], ("ac", value), pulls[5]], reactions)), False)

    def test_is_spare_with_reactions(self):
        frame, zeros = square(), [("bc", q(0)), ("cd", q(0)), ("da", q(0))]
        for a, b, due in [((-1, 0), (1, 0), True), ((0, 0), (0, 0), False), ((-1, 0), (0, 0), False)]:
            answer = ("spare", [("ab", q(1)), *zeros], forces(a=a, b=b))
            self.assertIs(is_spare(frame, "ab", answer), due)
        self.assertIs(is_spare(frame, "ab", ("spare", [("ab", (True, 1)), *zeros], forces(a=(-1, 0), b=(1, 0)))), False)

    def test_is_needed(self):
        frame = square()
        word, velocities = spare(frame, "bc")
        self.assertIs(is_spare(frame, "bc", (word, velocities)), True)
        # The mechanism of the whole frame may be added.
        for c, d, due in [((0, 1), (0, 0), True), ((5, 1), (5, 0), True), ((0, 2), (0, 0), False),
            ((0, 1), (1, 0), False),
                          ((5, 0), (5, 0), False), ((0, -1), (0, 0), False), ((0, 1), (0, 1), False)]:
            answer = ("needed", forces(a=(0, 0), b=(0, 0), c=c, d=d))
            self.assertIs(is_spare(frame, "bc", answer), due, (c, d))
        self.assertIs(is_spare(frame, "bc", ("needed", forces(a=(0, 1), b=(0, 1), c=(0, 2), d=(0, 1)))), False)
        for answer in [("Needed", velocities), ("motion", velocities), ("needed", velocities, []), ("needed", None),
                       ("needed", tuple(velocities)), ("needed", velocities[::-1]), ["needed", velocities]]:
            self.assertIs(is_spare(frame, "bc", answer), False)

    def test_errors(self):
        for call in (spare, lambda frame, bar: is_spare(frame, bar, None)):
            for value in NO_FRAMES:
                check_error(self, WrongKind, {"argument": "frame"}, call, value, None)
            for value in NO_NAMES:
                check_error(self, WrongKind, {"argument": "bar"}, call, triangle(), value)
            check_error(self, UnknownName, {"unknown": "ba"}, call, triangle(), "ba")
        for value in NO_FRAMES:
            check_error(self, WrongKind, {"argument": "frame"}, spare_bars, value)

    def test_fresh(self):
        check_fresh(self, lambda: spare(square(), "ab"))
        check_fresh(self, lambda: spare(square(), "cd"))
        check_fresh(self, lambda: spare_bars(square()))


class TestThin(unittest.TestCase):
    def test_small(self):
        frame = crossed_square()
        costs = [(row[0], q(1)) for row in frame.bars]
        word, gone, certificates = thin(frame, costs)
        self.assertEqual((word, gone), ("gone", ["bd"]))
        self.assertEqual(certificates[0][0], "bd")
        self.assertEqual(dict(certificates[0][1]), {
            "ab": q(-1), "bc": q(-1), "cd": q(-1), "da": q(-1), "ac": q(1), "bd": q(1)})
        self.assertEqual(certificates[0][2], [])
        for dear in ["ab", "bc", "cd", "da", "ac", "bd"]:
            costs = [(row[0], q(1 + (row[0] == dear), 3)) for row in frame.bars]
            self.assertEqual(thin(frame, costs)[1], [dear])
        # The order of the going is that of the costs, and the bars that go stand in the order of the frame.
        held = crossed_square(grounds=[(name, "fixed") for name in "abcd"])
        word, gone, certificates = thin(held, [(row[0], q(6 - k)) for k, row in enumerate(held.bars)])
        self.assertEqual((gone, [one[0] for one in certificates]), ([row[0] for row in held.bars],) * 2)
        self.assertEqual(thin(triangle(), [("ab", q(1)), ("bc", q(0)), ("ca", (HUGE, 7))]), ("gone", [], []))
        self.assertEqual(thin(Frame([], []), []), ("gone", [], []))

    def test_many(self):
        source = random.Random(182)
        many = 0
        for frame, _ in some_frames(120, 183):
            costs = some_costs(frame, source)
            paid = {bar: fraction(cost) for bar, cost in costs}
            answer = thin(frame, costs)
            self.assertIs(is_thin(frame, costs, answer), True)
            word, gone, certificates = answer
            self.assertEqual(word, "gone")
            self.assertEqual(gone, self.slow_gone(frame, paid))
            self.check_certificates(frame, paid, gone, certificates)
            if len(frame.bars) <= 7:
                many += 1
                most = max(sum(paid[bar] for bar in some) for some in self.together(frame))
                self.assertEqual(sum(paid[bar] for bar in gone), most)
        self.assertGreater(many, 40)

    def slow_gone(self, frame, paid):
        """The bars without which no freedom comes back when bars are added in the order of their costs."""
        stay = []
        for bar in sorted(paid, key=lambda name: paid[name]):
            others = [row[0] for row in frame.bars if row[0] not in stay]
            with_it = slow_freedom(without(frame, [name for name in others if name != bar]))
            if with_it < slow_freedom(without(frame, others)):
                stay.append(bar)
        return [row[0] for row in frame.bars if row[0] not in stay]

    def together(self, frame):
        names = [row[0] for row in frame.bars]
        for size in range(len(names) + 1):
            for some in itertools.combinations(names, size):
                if slow_freedom(without(frame, some)) == slow_freedom(frame):
                    yield some

    def check_certificates(self, frame, paid, gone, certificates):
        self.assertEqual([one[0] for one in certificates], gone)
        for bar, pulls, reactions in certificates:
            check_forces(self, frame, Load([]), pulls, reactions)
            self.assertEqual(dict(pulls)[bar], q(1))
            for name, pull in pulls:
                if name != bar and pull != q(0):
                    self.assertNotIn(name, gone)
                    self.assertLessEqual(paid[name], paid[bar])

    def test_is_thin(self):
        frame = crossed_square()
        equal = [(row[0], q(1)) for row in frame.bars]
        for bar in [row[0] for row in frame.bars]:
            _, pulls, reactions = spare(frame, bar)
            answer = ("gone", [bar], [(bar, pulls, reactions)])
            self.assertIs(is_thin(frame, equal, answer), True)
            for dear in [row[0] for row in frame.bars]:
                costs = [(row[0], q(1 + (row[0] == dear))) for row in frame.bars]
                self.assertIs(is_thin(frame, costs, answer), bar == dear)
        _, pulls, reactions = spare(frame, "ac")
        good = ("gone", ["ac"], [("ac", pulls, reactions)])
        for answer in [
            None, 1, "gone", (), ("gone", ["ac"]), list(good), (*good, 1), ("Gone", *good[1:]), ("gone", [], []),
            ("gone", ["ac"], []), ("gone", ("ac",), good[2]), ("gone", ["ac"], tuple(good[2])), ("gone", "ac", good[2]),
            ("gone", ["ac", "ac"], good[2] * 2), ("gone", ["bd", "ac"], good[2] * 2), ("gone", ["ca"], good[2]),
            ("gone", ["ac"], good[2] * 2), ("gone", ["ac"], [["ac", pulls, reactions]]), ("gone", ["ac"], [None]),
            ("gone", ["ac"], [("ac", pulls)]), ("gone", ["ac"], [("bd", pulls, reactions)]),
            ("gone", [["ac"]], good[2]),
            ("gone", ["ac"], [("ac", pulls, [("a", q(0), q(0))])]), ("gone", ["ac"], [("ac", pulls[::-1], [])]),
            ("gone", ["ac", "bd"], [("ac", pulls, []), ("bd", pulls, [])]), ("gone", None, None), {}, frame,
            ("gone", ["ac"], [("ac", [(name, q(-pull[0], pull[1])) for name, pull in pulls], [])]),
            ("gone", ["ac"], [("ac", [(name, q(2 * pull[0], pull[1])) for name, pull in pulls], [])]),
            ("gone", ["ac"], [("ac", [(name, q(0)) for name, pull in pulls], [])]), ("gone", good[2], ["ac"]),
            ("gone", ["ac"], [("ac", pulls, reactions, 1)]), ("gone", [None], good[2]), (None, *good[1:]),
        ]:
            self.assertIs(is_thin(frame, equal, answer), False)
        for value in NO_RATIOS:
            wrong = [(name, value if name == "ac" else pull) for name, pull in pulls]
            self.assertIs(is_thin(frame, equal, ("gone", ["ac"], [("ac", wrong, [])])), False)

    def test_other_certificates(self):
        # Two squares that share nothing: a certificate has no pull in another bar that goes.
        names = "abcdefgh"
        spots = [(0, 0), (1, 0), (1, 1), (0, 1), (9, 0), (8, 0), (8, 1), (9, 1)]
        pairs = "ab bc cd da ac bd ef fg gh he eg fh".split()
        frame = Frame([(name, q(x), q(y)) for name, (x, y) in zip(names, spots)], bars(*pairs))
        costs = [(name, q(1)) for name in pairs]
        good = thin(frame, costs)
        self.assertEqual(good[1], ["bd", "fh"])
        self.assertIs(is_thin(frame, costs, good), True)
        both = [(name, q(fraction(x) + fraction(y))) for (name, x), (_, y) in zip(good[2][0][1], good[2][1][1])]
        self.assertIs(is_thin(frame, costs, ("gone", ["bd", "fh"], [("bd", both, []), good[2][1]])), False)
        self.assertIs(is_thin(frame, costs, ("gone", ["bd", "fh"], good[2][::-1])), False)
        self.assertIs(is_thin(frame, costs, ("gone", ["bd"], good[2][:1])), False)
        self.assertIs(is_thin(frame, costs, ("gone", ["ab", "bd"], good[2])), False)

    def test_errors(self):
        frame = triangle()
        good = [("ab", q(1)), ("bc", q(0)), ("ca", q(2))]
        for call in (thin, lambda frame, costs: is_thin(frame, costs, None)):
            for value in NO_FRAMES:
                check_error(self, WrongKind, {"argument": "frame"}, call, value, None)
            for value in [None, 1, (), [], {}, tuple(good), good[::-1], good[:2], good + good[:1], "ab",
                          [list(one) for one in good], *[[*good[:2], ("ca", one)] for one in NO_COSTS]]:
                check_error(self, WrongKind, {"argument": "costs"}, call, frame, value)

    def test_nothing_changes(self):
        frame, costs = crossed_square(), [(row[0], q(1)) for row in crossed_square().bars]
        before = copy.deepcopy(costs)
        answer = thin(frame, costs)
        is_thin(frame, costs, answer)
        self.assertEqual((costs, frame), (before, crossed_square()))
        held = crossed_square(grounds=[(name, "fixed") for name in "abcd"])
        check_fresh(self, lambda: thin(held, costs))


class TestOffered(unittest.TestCase):
    def test_small(self):
        frame = square()
        found = offered(frame, [("n", "c", "a", q(3)), ("m", "b", "d", q(0))])
        self.assertEqual(found.bars, frame.bars + [("n", "c", "a", "rod"), ("m", "b", "d", "rod")])
        self.assertEqual((found.joints, found.grounds), (frame.joints, frame.grounds))
        self.assertEqual(offered(frame, []), frame)

    def test_errors(self):
        frame = square()
        one = q(1)
        for call in (offered, mend, lambda frame, offers: is_mend(frame, offers, None),
                     lambda frame, offers: replacing(frame, "ab", offers)):
            for value in NO_FRAMES:
                check_error(self, WrongKind, {"argument": "frame"}, call, value, None)
            self.check_kinds(call, frame)
            for offers, name in [
                ([("n", "x", "y", one), ("ab", "z", "z", one)], "ab"), ([("ba", "b", "a", one)], "ba"),
                ([("n", "a", "b", one), ("ab", "x", "x", one)], "n"),
                ([("n", "x", "y", one), ("m", "y", "x", one)], "m"),
                ([("n", "x", "x", one), ("n", "y", "z", one)], "n"),
                ([("n", "x", "x", one), ("m", "x", "x", one)], "m"),
                ([("n", "a", "c", one), ("m", "c", "a", one)], "m"),
            ]:
                check_error(self, RepeatedName, {"repeated": name}, call, frame, offers)
            for offers, name in [
                ([("n", "x", "y", one)], "x"), ([("n", "a", "y", one)], "y"),
                ([("n", "a", "a", one), ("m", "b", "y", one)],
                                                                              "y"),
                ([("n", "x", "x", one)], "x"), ([("n", "ab", "a", one)], "ab"),
            ]:
                check_error(self, UnknownName, {"unknown": name}, call, frame, offers)
            check_error(self, ZeroBar, {"subject": "m"}, call, frame, [("n", "a", "c", one), ("m", "b", "b", one)])
        twin = Frame(joints(a=(0, 0), b=(0, 0), c=(1, 0)), bars("ac"))
        for call in (offered, mend, lambda frame, offers: replacing(frame, "ac", offers)):
            check_error(self, ZeroBar, {"subject": "n"}, call, twin, [("m", "b", "c", one), ("n", "b", "a", one)])

    def check_kinds(self, call, frame):
        for value in NO_OFFERS:
            check_error(self, WrongKind, {"argument": "offers"}, call, frame, value)
        for value in NO_NAMES:
            for item in [(value, "a", "c", q(1)), ("n", value, "c", q(1)), ("n", "a", value, q(1))]:
                check_error(self, WrongKind, {"argument": "offers"}, call, frame, [item] * 40)
        for value in NO_COSTS:
            check_error(self, WrongKind, {"argument": "offers"}, call, frame, [("n", "a", "c", value)])

    def test_bounds(self):
        places = [(f"j{k}", q(k), q(k * k)) for k in range(12)]
        pairs = [(f"j{one}", f"j{other}") for one in range(12) for other in range(one)]
        lines = [(f"b{k}", *pair, "rod") for k, pair in enumerate(pairs)]
        offers = [(name, one, other, q(1)) for name, one, other, _ in lines]
        frame = Frame(places, lines[:26])
        self.assertEqual(len(offered(frame, offers[26:30]).bars), 30)
        self.assertEqual(len(offered(Frame(places, []), offers[:30]).bars), 30)
        self.assertEqual(mend(frame, offers[26:30])[0], "beyond")
        for call in (offered, mend, lambda frame, offers: is_mend(frame, offers, None),
                     lambda frame, offers: replacing(frame, "zz", offers)):
            check_error(self, OutOfBounds, {"argument": "offers"}, call, frame, offers[26:31])
            check_error(self, OutOfBounds, {"argument": "offers"}, call, frame, [("n", "x", "x", q(1))] * 5)
            check_error(self, RepeatedName, {"repeated": "n"}, call, frame, [("n", "x", "x", q(1))] * 4)
        full = Frame(places, lines[:30])
        self.assertEqual(offered(full, []), full)
        check_error(self, OutOfBounds, {"argument": "offers"}, offered, full, offers[30:31])


class TestMend(unittest.TestCase):
    def test_small(self):
        frame = square()
        offers = [("n", "a", "c", q(2)), ("m", "b", "d", q(1))]
        word, chosen, certificates = mend(frame, offers)
        self.assertEqual((word, chosen, [one[0] for one in certificates]), ("mended", ["m"], ["n"]))
        self.assertEqual(mend(frame, [("n", "a", "c", q(1)), ("m", "b", "d", q(1))])[1], ["n"])
        self.assertEqual(mend(frame, [("n", "a", "c", q(1)), ("m", "b", "d", q(1, 2))])[1], ["m"])
        word, velocities = mend(frame, [])
        self.assertEqual(word, "beyond")
        self.assertIs(is_mend(frame, [], (word, velocities)), True)
        stand = triangle(grounds=[("a", "fixed"), ("b", "fixed")])
        self.assertEqual(mend(stand, []), ("mended", [], []))
        self.assertEqual(mend(Frame([], []), []), ("mended", [], []))
        free = Frame(joints(a=(0, 0), b=(1, 0), c=(0, 1)), [], grounds=[("a", "fixed"), ("b", "fixed")])
        offers = [("z", "c", "a", q(5)), ("y", "c", "b", q(0)), ("x", "a", "b", q(0))]
        word, chosen, certificates = mend(free, offers)
        self.assertEqual((word, chosen), ("mended", ["z", "y"]))
        self.assertEqual(certificates, [
            ("x", [("z", q(0)), ("y", q(0)), ("x", q(1))], forces(a=(-1, 0), b=(1, 0)))])
        self.assertEqual(mend(free, offers[1:])[0], "beyond")

    def test_many(self):
        source = random.Random(184)
        words = {"mended": 0, "beyond": 0}
        spare_offers = 0
        for frame, _ in some_frames(400, 185):
            if source.random() < 0.7:
                held = [row for row in frame.joints[:source.randint(1, 3)]]
                frame = Frame(frame.joints, frame.bars, grounds=[(row[0], "fixed") for row in held])
            offers = some_offers(frame, source)
            answer = mend(frame, offers)
            words[answer[0]] += 1
            self.assertIs(is_mend(frame, offers, answer), True)
            whole = whole_frame(frame, offers)
            if slow_freedom(whole) > 0:
                self.assertEqual(answer[0], "beyond")
                self.check_beyond(whole, answer[1])
                continue
            word, chosen, certificates = answer
            self.assertEqual((word, chosen), ("mended", self.slow_mend(frame, offers)))
            self.check_certificates(frame, offers, chosen, certificates)
            spare_offers += len(certificates)
            self.check_cheapest(frame, offers, chosen)
        self.assertTrue(min(words.values()) > 50 and spare_offers > 50, (words, spare_offers))

    def check_beyond(self, whole, velocities):
        check_grounds_kept(self, whole, velocities)
        self.assertEqual(set(slow_rates(whole, velocities).values()) - {0}, set())
        self.assertTrue(any(row[1:] != point(0, 0) for row in velocities))

    def slow_mend(self, frame, offers):
        chosen = []
        for offer in sorted(offers, key=lambda row: fraction(row[3])):
            if slow_freedom(whole_frame(frame, chosen + [offer])) < slow_freedom(whole_frame(frame, chosen)):
                chosen.append(offer)
        return [offer[0] for offer in offers if offer in chosen]

    def check_certificates(self, frame, offers, chosen, certificates):
        paid = {offer[0]: fraction(offer[3]) for offer in offers}
        whole = whole_frame(frame, offers)
        self.assertEqual([one[0] for one in certificates], [offer[0] for offer in offers if offer[0] not in chosen])
        for bar, pulls, reactions in certificates:
            check_forces(self, whole, Load([]), pulls, reactions)
            self.assertEqual(dict(pulls)[bar], q(1))
            for name, pull in pulls:
                if name in paid and name != bar and pull != q(0):
                    self.assertIn(name, chosen)
                    self.assertLessEqual(paid[name], paid[bar])

    def check_cheapest(self, frame, offers, chosen):
        paid = {offer[0]: fraction(offer[3]) for offer in offers}
        for size in range(len(offers) + 1):
            for some in itertools.combinations(offers, size):
                if slow_freedom(whole_frame(frame, list(some))) == 0:
                    self.assertGreaterEqual(size, len(chosen))
                    self.assertGreaterEqual(sum(fraction(row[3]) for row in some), sum(paid[bar] for bar in chosen))

    def test_is_mend(self):
        frame = square()
        offers = [("n", "a", "c", q(2)), ("m", "b", "d", q(1))]
        good = mend(frame, offers)
        word, chosen, certificates = good
        bar, pulls, reactions = certificates[0]
        self.assertIs(is_mend(frame, offers, good), True)
        moves = motions(frame)[0]
        for answer in [
            None, 1, word, (), (word, chosen), list(good), (*good, 1), ("Mended", chosen, certificates), {}, frame,
            (word, tuple(chosen), certificates), (word, chosen, tuple(certificates)), (word, [], certificates),
            (word, ["n", "m"], []), (word, ["m", "m"], certificates), (word, chosen, []),
            (word, chosen, certificates * 2),
            (word, ["n"], certificates), (word, ["ab"], certificates), ("beyond", moves),
            ("beyond", chosen, certificates),
            (word, chosen, [("m", pulls, reactions)]), (word, chosen, [(bar, pulls[:5], reactions)]),
            (word, chosen, [(bar, pulls, reactions[::-1])]), (word, chosen, [[bar, pulls, reactions]]),
            (word, chosen, [(bar, pulls, forces(a=(7, 0), b=(0, 0)))]), (word, None, None),
            (None, chosen, certificates),
            (word, "m", certificates), (word, chosen, [(bar, [(name, q(0)) for name, _ in pulls], reactions)]),
            ("beyond", None), ("beyond", [(row[0], q(0), q(0)) for row in frame.joints]), (word, [["m"]], certificates),
            (word, chosen, [(bar, pulls, reactions, 1)]), (word, chosen, [None]),
        ]:
            self.assertIs(is_mend(frame, offers, answer), False)
        for value in NO_RATIOS:
            wrong = [(name, value if name == "n" else pull) for name, pull in pulls]
            self.assertIs(is_mend(frame, offers, (word, chosen, [(bar, wrong, reactions)])), False)
        # The dearer one is not right, but an equal one is.
        found = spare(whole_frame(frame, offers), "m")
        other = (word, ["n"], [("m", found[1], found[2])])
        self.assertIs(is_mend(frame, offers, other), False)
        equal = [("n", "a", "c", q(1)), ("m", "b", "d", q(1))]
        self.assertIs(is_mend(frame, equal, other), True)
        self.assertIs(is_mend(frame, equal, good), True)

    def test_is_mend_other_offers(self):
        # Certificates have no pull in other offers that were not chosen.
        grounds = [(name, "fixed") for name in "abc"]
        free = Frame(joints(a=(0, 0), b=(1, 0), c=(0, 1)), [], grounds=grounds)
        offers = [("x", "a", "b", q(1)), ("y", "b", "c", q(1))]
        word, chosen, certificates = mend(free, offers)
        self.assertEqual((word, chosen), ("mended", []))
        both = ("x", [("x", q(1)), ("y", q(1))], forces(a=(-1, 0), b=(2, -1), c=(-1, 1)))
        self.assertIs(is_mend(free, offers, (word, [], certificates)), True)
        self.assertIs(is_mend(free, offers, (word, [], [both, certificates[1]])), False)

    def test_is_mend_that_does_not_stand(self):
        # As many offers as the freedom, and certificates for all others, but the frame still moves.
        frame = Frame(joints(a=(0, 0), b=(1, 0), c=(1, 1)), bars("bc"), grounds=[("a", "fixed"), ("b", "fixed")])
        offers = [("n", "a", "b", q(1))]
        self.assertEqual(mend(frame, offers)[0], "beyond")
        self.assertIs(is_mend(frame, offers, ("mended", ["n"], [])), False)
        self.assertIs(is_mend(frame, offers + [("m", "a", "c", q(1))], ("mended", ["n"], [])), False)
        self.assertEqual(mend(frame, offers + [("m", "a", "c", q(1))])[:2], ("mended", ["m"]))

    def test_is_beyond(self):
        frame = square()
        for c, d, due in [((1, 0), (1, 0), True), ((-3, 0), (-3, 0), True), ((0, 0), (0, 0), False),
                          ((1, 0), (0, 0), False)]:
            moves = forces(a=(0, 0), b=(0, 0), c=c, d=d)
            self.assertIs(is_mend(frame, [], ("beyond", moves)), due)
            self.assertIs(is_mend(frame, [("n", "a", "c", q(1))], ("beyond", moves)), False)
            for word in ("motion", "Beyond", "mended", None):
                self.assertIs(is_mend(frame, [], (word, moves)), False)
        self.assertIs(is_mend(frame, [], ("mended", [], [])), False)

    def test_nothing_changes(self):
        frame, offers = square(), [("n", "a", "c", q(2)), ("m", "b", "d", q(1))]
        before = copy.deepcopy(offers)
        answer = mend(frame, offers)
        is_mend(frame, offers, answer)
        replacing(frame, "ab", offers)
        self.assertEqual((offers, frame), (before, square()))
        check_fresh(self, lambda: mend(frame, offers))
        check_fresh(self, lambda: mend(frame, []))


class TestReplacing(unittest.TestCase):
    def test_small(self):
        frame = crossed_square(grounds=[("a", "fixed"), ("b", "fixed")])
        frame = without(frame, ["bd"])
        offers = [("n", "d", "b", q(1))]
        for bar, due in [("ab", ["n"]), ("bc", ["n"]), ("cd", ["n"]), ("da", ["n"]), ("ac", ["n"])]:
            self.assertEqual(replacing(frame, bar, offers), due)
        held = square()
        offers = [("n", "a", "c", q(0)), ("m", "b", "d", q(9))]
        for bar in ["bc", "cd", "da", "ab"]:
            self.assertEqual(replacing(held, bar, offers), ["n", "m"])
        self.assertEqual(replacing(held, "cd", []), [])
        # A ray to a joint that needs two.
        ray = Frame(joints(a=(0, 0), b=(2, 0), c=(1, 1), d=(3, 1)), bars("ac", "bc"),
                    grounds=[("a", "fixed"), ("b", "fixed")])
        self.assertEqual(replacing(ray, "ac", [("n", "d", "a", q(1)), ("m", "d", "c", q(1))]), ["n", "m"])
        self.assertEqual(replacing(ray, "bc", [("k", "a", "b", q(1)), ("m", "d", "c", q(1))]), ["m"])

    def test_many(self):
        source = random.Random(186)
        found = {True: 0, False: 0}
        for frame, _ in some_frames(150, 187):
            offers = some_offers(frame, source)
            for bar, _, _, _ in frame.bars:
                rest = without(frame, [bar])
                due = [offer[0] for offer in offers
                       if slow_freedom(whole_frame(rest, [offer])) <= slow_freedom(frame)]
                self.assertEqual(replacing(frame, bar, offers), due)
                for offer in offers:
                    found[offer[0] in due] += 1
        self.assertTrue(min(found.values()) > 40, found)

    def test_errors(self):
        frame, one = square(), q(1)
        for value in NO_FRAMES:
            check_error(self, WrongKind, {"argument": "frame"}, replacing, value, None, None)
        for value in NO_NAMES:
            check_error(self, WrongKind, {"argument": "bar"}, replacing, frame, value, None)
        check_error(self, WrongKind, {"argument": "offers"}, replacing, frame, "zz", None)
        # The names of the offers first, then the bar, then the joints of the offers, then their lengths.
        check_error(self, RepeatedName, {"repeated": "ab"}, replacing, frame, "zz", [("ab", "x", "y", one)])
        # The bar counts: an offer with its name or between its joints is repeated.
        check_error(self, RepeatedName, {"repeated": "n"}, replacing, frame, "ab", [("n", "b", "a", one)])
        check_error(self, RepeatedName, {"repeated": "ab"}, replacing, frame, "ab", [("ab", "a", "c", one)])
        check_error(self, UnknownName, {"unknown": "zz"}, replacing, frame, "zz", [("n", "x", "y", one)])
        check_error(self, UnknownName, {"unknown": "x"}, replacing, frame, "ab", [("n", "x", "y", one)])
        check_error(self, UnknownName, {"unknown": "zz"}, replacing, frame, "zz", [("n", "a", "a", one)])
        check_error(self, ZeroBar, {"subject": "n"}, replacing, frame, "ab", [("n", "a", "a", one)])
        check_fresh(self, lambda: replacing(frame, "cd", [("n", "a", "c", one), ("m", "b", "d", one)]))


class TestLong(unittest.TestCase):
    def test_long_numbers(self):
        frame = Frame([("a", (HUGE, 1), q(0)), ("b", q(0), (1, HUGE)), ("c", q(1), q(1))], bars("ab", "bc", "ca"),
                      grounds=[("a", "fixed"), ("b", "fixed")])
        self.assertEqual(spare(frame, "ab")[0], "spare")
        costs = [("ab", (HUGE, 1)), ("bc", (1, HUGE)), ("ca", q(0))]
        self.assertEqual(thin(frame, costs)[1], ["ab"])
        self.assertEqual(freedom(frame), 0)
        self.assertEqual(mend(without(frame, ["bc"]), [("bc", "b", "c", (HUGE, 3))])[:2], ("mended", ["bc"]))

    def test_fractions_of_costs(self):
        # Costs that differ only far behind the point.
        frame = crossed_square()
        for at in range(6):
            costs = [(row[0], q(Fraction(1, 3) + Fraction(k == at, 10 ** 300))) for k, row in enumerate(frame.bars)]
            self.assertEqual(thin(frame, costs)[1], [frame.bars[at][0]])

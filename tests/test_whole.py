"""What is promised of several modules at once."""

import random
import unittest

from helpers import bars, crossed_square, forces, fraction, grid, joints, point, q, qs, spoilt, wheel
from reference import check_forces, some_frames
from standframes.certificates import answers, read_certificate, reply, write_certificate
from standframes.changes import bare, moved, part, without_bar
from standframes.cheapest import is_lightest, is_tie_up, lightest, tie_up
from standframes.counts import crowd, is_crowded, kept_bars
from standframes.cranes import (
    carrying_order, is_carrying_order, is_standing_order, order_deeds, sound, standing_order,
)
from standframes.desks import read_deeds, run_rows, write_deeds
from standframes.drives import drive, halfway, is_drive, swing
from standframes.errors import BadText, FrameError, Unsafe
from standframes.faces import faces, is_cover
from standframes.forces import carry, is_carry, is_own_stress, own_stresses
from standframes.frames import Frame
from standframes.least import is_least, is_signed_solve, least, signed_solve
from standframes.lifts import is_lift, lift
from standframes.linkages import fits_positions, positions, sweep
from standframes.loads import Load, power
from standframes.mending import is_mend, is_spare, is_thin, mend, offered, spare, spare_bars, thin
from standframes.motions import freedom, is_motion, is_rigid, lock, motions, rigid, stands
from standframes.oneway import hold, is_hold, is_slack, is_steady, slack, steady
from standframes.pictures import is_picture, picture
from standframes.placing import meet, side_of
from standframes.rows import is_solve, solve
from standframes.sheets import Sheet, read_sheet, write_sheet
from standframes.steps import is_building, take_down
from standframes.strength import collapse, is_collapse, is_sag, role_limits, sag
from standframes.yards import Yard, keeps


def same_places(frame, other):
    return sorted(frame.joints) == sorted(other.joints)


class TestBuilding(unittest.TestCase):
    def test_a_sheet_is_built_and_carried(self):
        """A frame is read, put into an order, built by a desk, and then carries its load."""
        text = (
            "joint t 1 2\njoint l 0 1\njoint a 0 0\njoint b 2 0\nbar lt l t rod\nbar bt b t rod\nbar al a l rod\n"
            "bar bl b l tie\nground a fixed\nground b fixed\nload wind\npush wind t 1 0\npush wind l 1/2 0\n"
            "ask carry wind\nask hold wind\nask freedom\n")
        sheet = read_sheet(text)
        self.assertEqual(write_sheet(sheet),
            text.replace("push wind t 1 0\npush wind l 1/2 0", "push wind l 1/2 0\npush wind t 1 0"))
        frame, load = sheet.frame, sheet.loads[0][1]
        word, order = standing_order(frame)
        self.assertEqual((word, order), ("order", ["a", "b", "l", "t"]))
        yard, outcomes = run_rows(write_deeds(order_deeds(frame, load, order)), rule="carry")
        self.assertEqual(outcomes, [(k + 1, "done") for k in range(6)])
        self.assertEqual(yard.load, load)
        self.assertTrue(same_places(yard.frame, frame))
        # The forces in the built frame are those in the frame of the sheet.
        found, due = carry(yard.frame, yard.load), carry(frame, load)
        self.assertEqual((sorted(found[1]), sorted(found[2])), (sorted(due[1]), sorted(due[2])))
        self.assertEqual(answers(sheet)[0], due)
        self.assertEqual(reply(text), "carry wind forces\nhold wind motion\nfreedom 0\n")

    def test_orders_and_yards(self):
        """An order is found exactly if a yard with its rule takes the deeds of some order."""
        words = {"order": 0, "stuck": 0}
        for frame, load in some_frames(120, 231):
            for rule in ("carry", "hold"):
                answer = carrying_order(frame, load, rule=rule)
                words[answer[0]] += 1
                self.assertIs(is_carrying_order(frame, load, answer, rule=rule), True)
                if answer[0] == "order":
                    text = write_deeds(order_deeds(frame, load, answer[1]))
                    yard, outcomes = run_rows(text, rule=rule)
                    self.assertEqual({word for _, word in outcomes} - {"done"}, set())
                    self.assertTrue(same_places(yard.frame, frame))
                    self.assertIs(keeps(yard.frame, yard.load, rule), True)
                    self.assertEqual(Yard.replayed(read_deeds(text), rule), yard)
                else:
                    self.check_stuck(frame, load, rule, answer[1])
        self.assertTrue(min(words.values()) > 40, words)

    def check_stuck(self, frame, load, rule, groups):
        names = [row[0] for row in frame.joints]
        source = random.Random(len(names))
        for _ in range(3):
            order = source.sample(names, len(names))
            self.assertIs(sound(frame, load, order, rule=rule), False)

    def test_standing_orders_and_yards(self):
        for frame, _ in some_frames(80, 232):
            word, order = standing_order(frame)
            if word == "order":
                yard = Yard.replayed(order_deeds(frame, Load([]), order), "stand")
                self.assertIs(stands(yard.frame), True)
            else:
                self.assertIs(stands(part(frame, order)), True)

    def test_unsafe_velocities_are_a_certificate(self):
        found = 0
        for frame, load in some_frames(120, 233):
            order = [row[0] for row in frame.joints]
            yard = Yard(rule="hold")
            for deed in order_deeds(frame, load, order):
                try:
                    yard.work(deed)
                except Unsafe as error:
                    found += 1
                    free = Yard.replayed(yard.records, "free")
                    free.work(deed)
                    answer = ("motion", error.velocities)
                    self.assertIs(is_hold(free.frame, free.load, answer), True)
                    self.assertEqual(read_certificate(write_certificate(answer)), answer)
                except FrameError:
                    pass
        self.assertGreater(found, 30)


class TestAnswers(unittest.TestCase):
    def test_written_and_judged(self):
        """An answer is written, read back and judged, for the frame of a sheet that was written and read."""
        for frame, load in some_frames(100, 234):
            again = read_sheet(write_sheet(Sheet(frame, [("w", load)], [("carry", "w")])))
            answer = read_certificate(write_certificate(carry(frame, load)))
            self.assertIs(is_carry(again.frame, again.loads[0][1], answer), True)
            self.assertEqual(answers(again), [answer])

    def test_long_answers(self):
        # What the program returned may be passed back whatever its size.
        places = joints(a=(0, 0), b=(999999937, 1), c=(999999893, 999999883), d=(7, 999999751))
        frame = Frame(places, bars("ab", "bc", "cd", "da", "ac", "bd"),
            grounds=[("a", "fixed"), ("b", point(1, 999999733))])
        load = Load(forces(c=(999999677, 999999667), d=(999999613, 1)))
        for answer, judge in [(carry(frame, load), is_carry), (hold(frame, load), is_hold)]:
            self.assertIs(judge(frame, load, answer), True)
            self.assertEqual(read_certificate(write_certificate(answer)), answer)
        for swept in sweep(Frame(frame.joints, frame.bars[:2], grounds=frame.grounds[:1]), "ab",
            [q(999999937, 999999893)]):
            self.assertEqual(swept[0], "stuck")

    def test_crossings_of_modules(self):
        """Different ways to the same answer."""
        for frame, load in some_frames(80, 235):
            held = carry(frame, load)[0] == "forces"
            self.assertIs(keeps(frame, load, "carry"), held)
            rods = Frame(frame.joints, [(*row[:3], "rod") for row in frame.bars], grounds=frame.grounds)
            self.assertIs(hold(rods, load)[0] == "forces", held)
            if len(frame.bars) <= 12:
                self.assertIs(lightest(frame, load)[0] == "lightest", held)
            found = collapse(frame, load, role_limits(frame))
            self.assertIs(hold(frame, load)[0] == "forces", found[0] == "endless" or fraction(found[1]) >= 1)
            self.check_spare(frame)
            self.check_motions(frame)

    def check_spare(self, frame):
        spares = spare_bars(frame)
        for bar, _, _, _ in frame.bars:
            rest = without_bar(frame, bar)
            one, other = frame.ends(bar)
            self.assertIs(bar in spares, freedom(rest) == freedom(frame))
            # A bar is spare exactly if its ends are locked without it.
            self.assertIs(bar in spares, lock(rest, one, other)[0] == "forces")
        gone = thin(frame, [(row[0], q(1)) for row in frame.bars])[1]
        for bar in gone:
            self.assertIn(bar, spares)
        if not frame.grounds:
            stays = [row[0] for row in frame.bars if row[0] not in gone]
            self.assertLessEqual(len(stays), len(kept_bars(frame)))

    def check_motions(self, frame):
        for moves in motions(frame)[:2]:
            one, other = swing(frame, moves)
            self.assertEqual(halfway(one, other), (frame, moves))
            self.assertIs(is_motion(frame, drive(frame, [])[1]), True)

    def test_mended_frames_stand(self):
        frame = Frame(joints(a=(0, 0), b=(4, 0), c=(4, 3), d=(0, 3)), bars("ab", "bc", "cd", "da"), grounds=[
            ("a", "fixed"), ("b", point(1, 0))])
        offers = [("ac", "a", "c", q(5)), ("bd", "b", "d", q(4))]
        word, chosen, certificates = mend(frame, offers)
        self.assertEqual((word, chosen), ("mended", ["bd"]))
        self.assertIs(is_mend(frame, offers, (word, chosen, certificates)), True)
        whole = offered(frame, offers)
        bar, pulls, reactions = certificates[0]
        check_forces(self, whole, Load([]), pulls, reactions)
        self.assertIs(is_own_stress(whole, pulls), True)
        text = write_certificate(("forces", pulls, reactions))
        self.assertEqual(read_certificate(text), ("forces", pulls, reactions))
        self.assertEqual(spare(whole, "ac")[0], "spare")
        self.assertIs(stands(offered(frame, offers[1:])), True)
        self.assertEqual(len(take_down(bare(offered(frame, offers[1:])))), 3)

    def test_a_linkage_and_its_motion(self):
        frame = Frame(joints(o=(0, 0), e=(10, 0), p=(3, 4), r=(13, 4)), bars("op", "pr", "re"), grounds=[
            ("o", "fixed"), ("e", "fixed")])
        # The joints of a parallel crank move with equal velocities, and the turned frame has equal lengths.
        word, moves = drive(frame, [("turn", "op", q(1))])
        self.assertEqual((word, moves[2][1:], moves[3][1:]), ("motion", point(-4, 3), point(-4, 3)))
        word, places = positions(frame, turn=("op", q(1, 3)))
        self.assertEqual(word, "places")
        turned = moved(frame, places)
        self.assertEqual([turned.squared(bar) for bar in ("op", "pr", "re")],
            [frame.squared(bar) for bar in ("op", "pr", "re")])
        self.assertIs(fits_positions(turned, frame.joints), True)
        self.assertIs(halfway(frame, turned)[0] == frame, False)
        spot = meet(point(0, 0), point(3, 0), q(4), q(4))
        self.assertEqual((spot[0], side_of(spot, point(0, 0), point(3, 0))), ("root", 1))

    def test_a_steady_frame(self):
        frame = crossed_square(grounds=[("a", "fixed"), ("b", point(1, 0))])
        self.assertEqual(steady(frame)[0], "steady")
        word, velocities = lock(without_bar(without_bar(frame, "ac"), "bd"), "a", "c")
        self.assertEqual(word, "motion")
        self.assertEqual(power(Load([]), velocities), q(0))

    def test_spoilt_answers(self):
        """No judge takes an answer in which one place does not have its form, and none raises an error."""
        frame = crossed_square(grounds=[("a", "fixed"), ("b", point(1, 0))])
        ties = Frame(frame.joints, [(*row[:3], "tie") for row in frame.bars], grounds=frame.grounds)
        load, none = Load(forces(c=(1, -1))), Load([])
        square = without_bar(without_bar(frame, "ac"), "bd")
        offers = [("n", "a", "c", q(1)), ("m", "d", "b", q(2))]
        one_way = [("n", "a", "c", "tie", q(1)), ("m", "d", "b", "prop", q(2))]
        springs = [(row[0], q(2)) for row in frame.bars]
        limits = [("ac", q(1), q(2)), ("bd", q(3), None), ("bc", q(1), q(1)), ("cd", q(1), q(1)), ("da", q(1), q(1))]
        costs = [(row[0], q(1)) for row in frame.bars]
        turns = [("turn", "ab", q(1)), ("stretch", "ac", q(1))]
        rows, right = grid([1, 2], [1, 2]), qs(3, 4)
        linkage = Frame(joints(o=(0, 0), e=(10, 0), p=(3, 4), r=(13, 4)), bars("op", "pr", "re"), grounds=[
            ("o", "fixed"), ("e", "fixed")])
        for find, judge, args, more in [
            (carry, is_carry, (frame, load), {}), (carry, is_carry, (square, load), {}),
            (hold, is_hold, (frame, load), {}), (hold, is_hold, (ties, load), {}),
            (steady, is_steady, (frame,), {}), (steady, is_steady, (square,), {}),
            (slack, is_slack, (ties, none, "ac"), {}), (slack, is_slack, (ties, Load(forces(b=(1, 0))), "ab"), {}),
            (collapse, is_collapse, (frame, load, limits), {}), (collapse, is_collapse, (frame, load, []), {}),
            (sag, is_sag, (frame, load, springs), {}), (sag, is_sag, (square, load, springs[:4]), {}),
            (spare, is_spare, (frame, "ac"), {}), (spare, is_spare, (square, "cd"), {}),
            (thin, is_thin, (frame, costs), {}), (mend, is_mend, (square, offers), {}), (mend, is_mend, (square, []), {}),
            (lightest, is_lightest, (frame, load), {}), (lightest, is_lightest, (square, load), {}),
            (tie_up, is_tie_up, (square, Load(forces(c=(1, 0))), one_way), {}),
            (tie_up, is_tie_up, (square, Load(forces(c=(-1, 0))), one_way[:1]), {}),
            (drive, is_drive, (frame, turns), {}), (drive, is_drive, (square, turns[:1]), {}),
            (drive, is_drive, (square, []), {}), (take_down, is_building, (without_bar(bare(frame), "ac"),), {}),
            (standing_order, is_standing_order, (frame,), {}), (standing_order, is_standing_order, (square,), {}),
            (carrying_order, is_carrying_order, (frame, load), {}),
            (carrying_order, is_carrying_order, (ties, load), {"rule": "hold"}),
            (solve, is_solve, (rows, right), {"width": 2}), (solve, is_solve, (rows, qs(3, 3)), {"width": 2}),
            (least, is_least, (rows, right, qs(1, 1)), {}), (least, is_least, (rows, qs(3, 3), qs(1, 1)), {}),
            (least, is_least, (rows[:1], qs(3), qs(-1, -5)), {"signs": [0, 1]}),
            (signed_solve, is_signed_solve, (rows, right), {"signs": [1, 0]}),
            (signed_solve, is_signed_solve, (rows[:1], qs(3)), {"signs": [1, -1]}),
            (faces, is_cover, (wheel(),), {}), (lambda frame: own_stresses(frame)[0], is_own_stress, (wheel(),), {}),
            (lambda frame: motions(frame)[0], is_motion, (square,), {}),
            (lambda frame: rigid(frame, shift=point(1, 2), turn=q(3)), is_rigid, (square,), {}),
            (lambda frame, walks: picture(frame, walks, own_stresses(frame)[0]), is_picture, (wheel(), faces(wheel())), {}),
            (lambda frame, walks: lift(frame, walks, own_stresses(frame)[0]), is_lift, (wheel(), faces(wheel())), {}),
            (lambda frame, turn: positions(frame, turn=turn)[1], fits_positions, (linkage,), {"turn": ("op", q(1))}),
            (crowd, is_crowded, (crossed_square(), "bd"), {}),
        ]:
            answer = find(*args, **more)
            judged = args[:1] if judge is is_crowded else args
            self.assertIs(judge(*judged, answer, **more), True, (judge, answer))
            count = 0
            for wrong in spoilt(answer):
                count += 1
                self.assertIs(judge(*judged, wrong, **more), False, (judge, wrong))
            self.assertGreater(count, 9)

    def test_texts_of_one_kind_are_not_of_another(self):
        texts = ["joint a 0 0\n", "motion\nmove a 0 0\n", "joint a 0 0 none\n"]
        for k, read in enumerate([read_sheet, read_certificate, read_deeds]):
            for at, text in enumerate(texts):
                if at == k:
                    read(text)
                else:
                    self.assertRaises(BadText, read, text)

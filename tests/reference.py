"""Slow calculations in fractions, by the words of the document, and frames to try them on."""

import itertools
import random
import re
from fractions import Fraction
from math import gcd

from helpers import forces, fraction, point, q
from standframes.frames import Frame
from standframes.loads import Load, power


def columns(frame):
    """A column of forces on all joints for each unknown of point 18, in fractions."""
    names = [row[0] for row in frame.joints]
    places = {name: (fraction(x), fraction(y)) for name, x, y in frame.joints}
    units = []
    for _, one, other, _ in frame.bars:
        x, y = (places[other][k] - places[one][k] for k in (0, 1))
        units.append({one: (x, y), other: (-x, -y)})
    for joint, across in frame.grounds:
        if across == "fixed":
            units.extend([{joint: (1, 0)}, {joint: (0, 1)}])
        else:
            units.append({joint: (-fraction(across[1]), fraction(across[0]))})
    return [[unit.get(name, (0, 0))[k] for name in names for k in (0, 1)] for unit in units]


def independent(found, column):
    """Adds the column to the list of (place, column) unless it is a sum of multiples of them."""
    rest = [Fraction(item) for item in column]
    for at, base in found:
        rest = [x - y * rest[at] / base[at] for x, y in zip(rest, base)]
    at = next((k for k, item in enumerate(rest) if item != 0), None)
    if at is None:
        return False
    found.append((at, rest))
    return True


def free_unknowns(frame):
    found = []
    return [k for k, column in enumerate(columns(frame)) if not independent(found, column)]


def load_column(frame, load):
    return [fraction(item) for name, _, _ in frame.joints for item in load.force(name)]


def rank(vectors):
    found = []
    return sum(independent(found, vector) for vector in vectors)


def null_space(rows, width):
    """The null solutions of point 9: Gauss and Jordan with fractions."""
    rest = [[Fraction(item) for item in row] for row in rows]
    at = {}
    for column in range(width):
        k = next((k for k, row in enumerate(rest) if row[column] != 0 and k not in at.values()), None)
        if k is not None:
            rest[k] = [item / rest[k][column] for item in rest[k]]
            rest = [
                row if j == k else [x - row[column] * y for x, y in zip(row, rest[k])] for j, row in enumerate(rest)]
            at[column] = k
    return [
        [Fraction(k == free) if k not in at else -rest[at[k]][free] for k in range(width)]
        for free in range(width) if free not in at]


def carried(frame, load):
    found = []
    for column in columns(frame):
        independent(found, column)
    return not independent(found, load_column(frame, load))


def places_of(frame):
    return {name: (fraction(x), fraction(y)) for name, x, y in frame.joints}


def speeds_of(velocities):
    return {name: (fraction(x), fraction(y)) for name, x, y in velocities}


def slow_rate(frame, velocities, one, other):
    places, speeds = places_of(frame), speeds_of(velocities)
    return sum((places[one][k] - places[other][k]) * (speeds[one][k] - speeds[other][k]) for k in (0, 1))


def slow_rates(frame, velocities):
    return {bar: slow_rate(frame, velocities, one, other) for bar, one, other, _ in frame.bars}


def slow_power(load, velocities):
    speeds = speeds_of(velocities)
    return sum(fraction(x) * speeds[name][0] + fraction(y) * speeds[name][1] for name, x, y in load.entries)


def fits_roles(frame, pulls):
    """True if no tie pushes and no prop pulls."""
    signs = {"rod": 0, "tie": 1, "prop": -1}
    return all(signs[role] * fraction(pull) >= 0 for (_, _, _, role), (_, pull) in zip(frame.bars, pulls))


def check_roles_kept(test, frame, velocities):
    """The velocities fit the roles."""
    check_grounds_kept(test, frame, velocities)
    rates = slow_rates(frame, velocities)
    for bar, _, _, role in frame.bars:
        if role == "rod":
            test.assertEqual(rates[bar], 0)
        elif role == "tie":
            test.assertLessEqual(rates[bar], 0)
        else:
            test.assertGreaterEqual(rates[bar], 0)


def check_grounds_kept(test, frame, velocities):
    test.assertEqual([row[0] for row in velocities], [row[0] for row in frame.joints])
    speeds = speeds_of(velocities)
    for name, across in frame.grounds:
        x, y = speeds[name]
        if across == "fixed":
            test.assertEqual((x, y), (0, 0))
        else:
            test.assertEqual(fraction(across[0]) * y - fraction(across[1]) * x, 0)


def unknowns(frame, pulls, reactions):
    """The unknowns of point 18 behind forces."""
    values = [fraction(pull) for _, pull in pulls]
    for (_, x, y), (_, across) in zip(reactions, frame.grounds):
        if across == "fixed":
            values.extend([fraction(x), fraction(y)])
        else:
            turn = (-fraction(across[1]), fraction(across[0]))
            values.append(fraction(x) / turn[0] if turn[0] else fraction(y) / turn[1])
    return values


def check_forces(test, frame, load, pulls, reactions):
    test.assertEqual([row[0] for row in pulls], [row[0] for row in frame.bars])
    test.assertEqual([row[0] for row in reactions], [row[0] for row in frame.grounds])
    for (_, x, y), (_, across) in zip(reactions, frame.grounds):
        if across != "fixed":
            test.assertEqual(fraction(x) * fraction(across[0]) + fraction(y) * fraction(across[1]), 0)
    sums = load_column(frame, load)
    for value, column in zip(unknowns(frame, pulls, reactions), columns(frame)):
        sums = [x + value * y for x, y in zip(sums, column)]
    test.assertFalse(any(sums))


def check_motion(test, frame, load, velocities):
    test.assertEqual([row[0] for row in velocities], [row[0] for row in frame.joints])
    speeds = [fraction(item) for row in velocities for item in row[1:]]
    for column in columns(frame):
        test.assertEqual(sum(x * y for x, y in zip(column, speeds)), 0)
    test.assertEqual(sum(x * y for x, y in zip(load_column(frame, load), speeds)), 1)
    test.assertEqual(power(load, velocities), (1, 1))


def some_frames(number, seed):
    source = random.Random(seed)
    for _ in range(number):
        count = source.randint(0, 6)
        names = source.sample("abcdefgh", count)
        places = [(name, q(source.randint(0, 2), source.randint(1, 2)), q(source.randint(0, 2))) for name in names]
        spot = {row[0]: row[1:] for row in places}
        pairs = [(one, other) for one in names for other in names if one != other and spot[one] != spot[other]]
        lines, seen = [], set()
        for one, other in source.sample(pairs, source.randint(0, len(pairs))):
            if frozenset((one, other)) not in seen and len(lines) < 2 * count:
                seen.add(frozenset((one, other)))
                lines.append((f"b{len(lines)}", one, other, source.choice(["rod", "tie", "prop"])))
        held = []
        for name in source.sample(names, source.randint(0, count)):
            slide = point(source.randint(-2, 2), source.choice([-3, 1, 2]))
            held.append((name, source.choice(["fixed", slide, point(1, 0)])))
        given = forces(**{name: (source.randint(-2, 2), source.randint(-2, 2)) for name in names})
        yield Frame(places, lines, grounds=held), Load(given[:source.randint(0, count)])


def balanced(frame, pulls):
    """The load that these pulls carry without reactions, if it has at most 24 forces."""
    given = []
    for (_, one, other, _), pull in zip(frame.bars, pulls):
        places = places_of(frame)
        x, y = (pull * (places[other][k] - places[one][k]) for k in (0, 1))
        given.extend([(one, q(-x), q(-y)), (other, q(x), q(y))])
    return Load(given[:24])


def common_points(one, other, first, second):
    """The common points of two segments, in fractions: none, one point, or "many"."""
    (ax, ay), (bx, by), (cx, cy), (dx, dy) = one, other, first, second
    ux, uy, vx, vy = bx - ax, by - ay, dx - cx, dy - cy
    turn = ux * vy - uy * vx
    if turn != 0:
        s = Fraction((cx - ax) * vy - (cy - ay) * vx, 1) / turn
        t = Fraction((cx - ax) * uy - (cy - ay) * ux, 1) / turn
        return (ax + s * ux, ay + s * uy) if 0 <= s <= 1 and 0 <= t <= 1 else None
    if (cx - ax) * uy != (cy - ay) * ux:
        return None
    # On one line: where the second segment begins and ends along the first one.
    marks = sorted(((x - ax) * ux + (y - ay) * uy) / Fraction(ux * ux + uy * uy) for x, y in (first, second))
    low, high = max(marks[0], 0), min(marks[1], 1)
    if low > high:
        return None
    return (ax + low * ux, ay + low * uy) if low == high else "many"


def first_meeting(frame):
    """By the words of point 33."""
    places = {name: (fraction(x), fraction(y)) for name, x, y in frame.joints}
    for at, (name, one, other, _) in enumerate(frame.bars):
        for later, first, second, _ in frame.bars[at + 1:]:
            common = common_points(places[one], places[other], places[first], places[second])
            shared = {one, other} & {first, second}
            allowed = places[shared.pop()] if shared else None
            if common is not None and common != allowed:
                return (name, later)
    return None


def flat_frames(number, seed):
    """Flat frames, each grown bar by bar."""
    source = random.Random(seed)
    for _ in range(number):
        count = source.randint(2, 8)
        names = source.sample("abcdefgh", count)
        spots = source.sample(list(itertools.product(range(-3, 4), repeat=2)), count)
        places = [(name, q(x), q(y)) for name, (x, y) in zip(names, spots)]
        pairs = list(itertools.combinations(names, 2))
        source.shuffle(pairs)
        lines = []
        for k, pair in enumerate(pairs):
            more = lines + [(f"b{k}", *source.sample(pair, 2), source.choice(["rod", "tie", "prop"]))]
            if first_meeting(Frame(places, more)) is None and source.random() < 0.9:
                lines = more
        lines = lines or [("b0", *pairs[0], "rod")]
        # Only the joints that the first bar reaches, so that the frame is connected.
        reached = set(lines[0][1:3])
        for _ in names:
            reached |= {end for row in lines if reached & set(row[1:3]) for end in row[1:3]}
        yield Frame([row for row in places if row[0] in reached], [row for row in lines if row[1] in reached])


def slow_number(word):
    """The ratio of a number in a text by the words of point 41, or None."""
    found = re.fullmatch("(-?)([0-9]{1,400})(?:/([0-9]{1,400}))?", word)
    if not found:
        return None
    minus, above, below = found.groups()
    if any(part and part != "0" and part.startswith("0") for part in (above, below)):
        return None
    if below is None:
        return None if minus and above == "0" else q(int(minus + above))
    if int(below) < 2 or gcd(int(above), int(below)) != 1:
        return None
    return (int(minus + above), int(below))


def slow_columns(line):
    """The words of a line, and their columns."""
    words = line.split(" ")
    return words, [sum(len(word) + 1 for word in words[:k]) + 1 for k in range(len(words))]


def slow_row(line, shapes, places):
    """The first of the faults 1 to 4 of point 42 in a row as (column, fault), or None.

    The shapes have a letter for each word behind the first one, by the first word and the word at its place, if it has
    one. A shape that ends with a + goes on with any number of bars.
    """
    words, at = slow_columns(line)
    if "" in words:
        return (at[words.index("")], "spacing")
    place = places.get(words[0])
    if words[0] not in {key.split()[0] for key in shapes}:
        return (1, "row")
    if place and len(words) <= place:
        return (len(line) + 1, "count")
    shape = shapes.get(f"{words[0]} {words[place]}" if place else words[0])
    if shape is None:
        return (at[place], "word")
    if shape.endswith("+"):
        rest = len(words) - len(shape)
        if rest < 0 or rest % 3:
            return (len(line) + 1, "count")
        shape = shape[:-1] + "nnr" * (rest // 3)
    if len(words) > len(shape) + 1:
        return (at[len(shape) + 1], "count")
    if len(words) <= len(shape):
        return (len(line) + 1, "count")
    for k, (word, form) in enumerate(zip(words[1:], shape), 1):
        good = {"n": re.fullmatch("[a-z][a-z0-9]{0,7}", word), "r": word in ("rod", "tie", "prop"), "?": True,
                "#": slow_number(word)}[form]
        if not good or (place and k == place + 1 and words[place:place + 3] == ["slide", "0", "0"]):
            return (at[k], "word")
    return None


def slow_lines(text):
    """The rows of a text with their lines, or the fault of its end."""
    lines = text.split("\n")
    if lines[-1]:
        return (len(lines), len(lines[-1]) + 1, "end")
    return [(at, line) for at, line in enumerate(lines[:-1], 1) if line and line[0] != "#"]

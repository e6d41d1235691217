"""What several tests share: short ways to write values, and checks of errors."""

from fractions import Fraction

from standframes.frames import Frame
from standframes.loads import Load
from standframes.ratios import is_ratio

ZERO = (0, 1)
HUGE = 10 ** 999 + 7


def q(numerator, denominator=1):
    """The ratio as a tuple."""
    value = Fraction(numerator, denominator)
    return (value.numerator, value.denominator)


def fraction(one):
    return Fraction(one[0], one[1])


def qs(*numbers):
    return [q(number) for number in numbers]


def point(x, y):
    return (q(x), q(y))


def grid(*rows):
    return [qs(*row) for row in rows]


def joints(**places):
    return [(name, q(x), q(y)) for name, (x, y) in places.items()]


def bars(*words, role="rod"):
    """Bars with names of two letters, which are their ends."""
    return [(word, word[0], word[1], role) for word in words]


def forces(**given):
    return [(name, q(x), q(y)) for name, (x, y) in given.items()]


def triangle(**more):
    return Frame(joints(a=(0, 0), b=(4, 0), c=(0, 3)), bars("ab", "bc", "ca"), **more)


def crossed_square(**more):
    return Frame(
        joints(a=(0, 0), b=(1, 0), c=(1, 1), d=(0, 1)), bars("ab", "bc", "cd", "da", "ac", "bd"), **more)


def wheel():
    """Three corners and a middle, flat."""
    return Frame(
        joints(a=(0, 0), b=(6, 0), c=(0, 6), d=(2, 2)), bars("ab", "bc", "ca", "ad", "bd", "cd"))


# Values that are no ratio.
NO_RATIOS = [
    None, True, 1, 0, "1", "a", [], (), (1,), (1, 1, 1), [1, 1], (True, 1), (1, True), (False, 1), (2, 2), (0, 2),
    (0, -1), (1, 0), (1, -1), (-3, 6), ((1, 1), 1), (1, (1, 1)), ("1", 1), (1, None), {}, {1: 1}, ([1], 1), (0, 0),
]
NO_NAMES = [
    None, True, 1, "", "A", "aB", "1a", "0", "a b", "a-b", "a_b", " a", "a ", "abcdefghi", "a\n", ["a"], ("a",), {},
    "_a", "aA", "~", "a{", "a`", "a/", "a:", "@", "[", "z9z9z9z9z",
]
NO_FRAMES = [None, 1, "frame", [], (), {}, Load([]), True]
NO_LOADS = [None, 1, [], [("a", (1, 1), (1, 1))], triangle(), True, "load"]
NO_NAME_LISTS = [
    None, 1, "ab", ("a",), {"a": 1}, [["a"]], [("a",)], triangle(), ["a", None], *[[value] for value in NO_NAMES],
]
NO_POINTS = [
    None, 1, "fixed", (1, 1), [q(1), q(2)], (q(1),), (q(1), q(2), q(3)), (q(1), (2, 2)), ((0, 2), q(1)), (q(1), True),
    (q(1), [1, 1]), (), [],
]


def check_error(test, kind, told, call, *args, **more):
    """The call raises an error of exactly this class, whose attributes have these values."""
    try:
        result = call(*args, **more)
    except Exception as error:
        if error.__class__ is not kind:
            test.fail(f"{error!r} for {args!r} {more!r}"[:2000])
        for name, value in told.items():
            test.assertEqual(getattr(error, name), value)
            test.assertIs(getattr(error, name).__class__, value.__class__)
    else:
        test.fail(f"no {kind.__name__} but {result!r} for {args!r} {more!r}"[:2000])


def lists_in(value):
    """Every list within the value."""
    found = [value] if isinstance(value, list) else []
    if isinstance(value, (list, tuple)):
        for item in value:
            found.extend(lists_in(item))
    return found


def check_fresh(test, call):
    """Equal calls return equal results, in lists that are all different ones."""
    first = call()
    second = call()
    test.assertEqual(first, second)
    lists = lists_in(first) + lists_in(second)
    test.assertEqual(len({id(item) for item in lists}), len(lists))
    for item in lists_in(first):
        item.clear()
    test.assertEqual(call(), second)


def spoilt(value):
    """The value with one place that does not have its form, in each way in turn."""
    if isinstance(value, str):
        yield from (value + "zz", value.upper() + "A", "", None, [value], 7)
    elif isinstance(value, int):
        yield from (None, str(value), [value], value == 1)
    else:
        yield list(value) if isinstance(value, tuple) else tuple(value)
        yield from (None, dict(enumerate(value)))
        if is_ratio(value):
            yield from ((2 * value[0], 2 * value[1]), (-value[0], -value[1]), value[0], (*value, 1))
        for at, item in enumerate(value):
            for wrong in spoilt(item):
                rest = [*value[:at], wrong, *value[at + 1:]]
                yield rest if isinstance(value, list) else tuple(rest)

"""What the tests share: values of many kinds, and comparisons that tell 1
from True and a tuple from a list."""

import unittest
from fractions import Fraction

from rangehunt.benches import Bench
from rangehunt.errors import MeterError, NoMeter
from rangehunt.sources import Source

# The bench of the examples of DOC.md.
PAIR = "\n".join((
    "meter wide",
    "  range low load 2 unit 1/10 up 4",
    "  range high load 4 unit 1 down 2",
    "meter side",
    "  range fine load 1 unit 1/10 up 11/4",
    "  range rough load 0 unit 1 down 5/2",
))

# Each sort of line, the most of each, and names that begin one another.
FULL = "\n".join((
    "spread 3",
    "meter wide",
    "  range low load 2 unit 1/10 up 4",
    "  range lower load 1/3 unit 1/2 down 2 up 9/2",
    "  range high load 4 unit 1 down 9/2",
    "meter wid",
    "  range low load 0 unit 5",
    "meter widest",
    "  range d load 1 unit 1 up 1",
    "  range c load 9999 unit 9999/9998 down 0 up 3/2",
    "  range load load 3/2 unit 1 down 1/2 up 9999",
    "  range a load 1/9999 unit 1/9999 down 9998/9999",
    "load wide 7",
    "load lamp 0",
))


def nested(depth):
    """A tuple in a list in a dict in a tuple .., as deep as this."""
    value = "end"
    for k in range(depth):
        value = ((value, 1), [value], {"a": value})[k % 3]
    return value


def any_values():
    """Values of all kinds."""
    return [
        0, 1, -1, 7, 999999999, True, False, None, "", "a", "wide", "1/2", "two words\n",
        (), (1,), (1, 2), ("a", None), [], [1, 2], ["wide"], {}, {"a": 1}, {1: [2]},
        Source((90, 1), (10, 1)), Bench(PAIR), MeterError("x"), NoMeter(("x", 1)), nested(30),
    ]


# Two loads, not in the sequence of the alphabet, and names that begin one another.
LIT = "\n".join((
    "meter b",
    "  range low load 2 unit 1/10 up 4",
    "  range lo load 4 unit 1 down 2",
    "meter ba",
    "  range fine load 1 unit 1/10 up 11/4",
    "  range fin load 1/2 unit 2/3 down 0 up 3",
    "  range f load 0 unit 1 down 5/2",
    "load z 3",
    "load b 1/2",
))

# Just 400 classes, and just 401.
MOST = "\n".join((
    "meter ab",
    "  range low load 1/2 unit 5 up 3",
    "  range lo load 3 unit 1/10 down 2",
    "meter a",
    "  range low load 1/2 unit 1/10 up 1",
    "  range lo load 2 unit 1/10 down 0 up 3/2",
    "  range b load 3 unit 5 down 3/2 up 3",
    "  range lower load 1/3 unit 1/10 down 3/2",
    "load a 1/3",
    "load z 2",
))
MORE = "\n".join((
    "meter abc",
    "  range low load 2 unit 1 up 4",
    "  range lo load 2 unit 1 down 3 up 6",
    "  range b load 1 unit 5 down 4",
    "meter a",
    "  range low load 5 unit 2/3 up 3",
    "  range lo load 2 unit 5 down 2",
    "meter ab",
    "  range low load 2 unit 1 up 2",
    "  range lo load 11 unit 5 down 2 up 3",
    "  range b load 11 unit 1 down 1",
    "load a 2",
    "load z 3",
))

# More than 400 lines.
CROWDED = "\n".join(
    [f"meter {name}\n" + "\n".join((
        f"  range a load {k} unit 1 up {k + 1}",
        f"  range b load {9 * k} unit 1 down {k} up 1{k}",
        f"  range c load {80 * k} unit 1 down 5/{k} up 2{k}",
        f"  range d load {700 * k} unit 1 down 7/{k}",
    )) for k, name in ((2, "k"), (3, "m"), (4, "n"))] + ["load a 1/2", "load b 1/3"]
)

RATIOS = [
    (0, 1), (1, 1), (1, 2), (2, 1), (2, 3), (3, 2), (7, 1), (10, 1), (11, 4), (90, 1),
    (1, 9999), (9999, 9998), (999999999, 1), (1, 999999999), (123456789, 987654320),
]


def no_ratios():
    """Values that are no ratios."""
    return [
        0, 1, -1, 2, True, False, None, "", "1", "1/2", "(1, 2)", (), (1,), (1, 2, 1), (0,), (0, 1, 1),
        [], [0, 1], [1, 2], {}, {0: 1}, {0: 1, 1: 2},
        (2, 4), (2, 2), (6, 3), (999999999, 3), (0, 2), (0, 0), (1, 0), (-1, 2), (1, -2), (-1, -2), (0, -1),
        (True, 1), (True, 2), (False, 1), (1, True), (2, True), (0, True), (True, True), (1, False),
        ("1", 1), (1, "1"), ("1", "2"), (1, None), (None, 1), ((1, 1), 1), (1, (1, 1)), ((1, 2),), ([1], 2), (1, [2]),
        Source((1, 2), (1, 1)), Bench(PAIR), MeterError((1, 2)), nested(30),
    ]


def near_settings(bench):
    """Values of many kinds that are no settings of the bench, but nearly, and any others."""
    found = any_values() + [bench.settings, bench.meters, bench.text, bench, ((), ()), (("",), ()), (((),), ())]
    rows = [{row[0]: k for k, row in enumerate(bench[meter])} for meter in bench.meters]
    for setting in (bench.first, bench.settings[0], bench.settings[-1], bench.settings[len(bench.settings) // 2]):
        ranges, on = setting
        found += [
            list(setting), (list(ranges), on), (ranges, list(on)), [list(ranges), list(on)], {ranges: on},
            setting + ((),), setting + (on,), setting[:1], (ranges,), ranges, on, (setting,), (on, ranges), ((ranges, on),),
            (ranges[::-1], on), (ranges[1:] + ranges[:1], on), (ranges[:-1], on), (ranges[1:], on), ((), on),
            (ranges + ranges[:1], on), (ranges + ranges, on), (ranges + ("low",), on), (bench.meters, on),
            (ranges, on + on), (ranges, on[::-1]), (ranges, on[:1] + on), (ranges, on + ("nobody",)), (ranges, ("nobody",)),
            (ranges, bench.loads + bench.loads), (ranges, bench.loads[::-1]), (ranges, bench.loads[:1] * 2),
            (ranges, bench.meters), (ranges, ranges), (ranges, ("",)), (ranges, ""), (ranges, "z"), (ranges, None),
            (ranges, 0), (ranges, False), (ranges, (True,)), (ranges, {}), (ranges, ((),)), (ranges, (on,)), (ranges, on, on),
            (ranges[0], on), ("".join(ranges), on), (" ".join(ranges), on), (None, on), (0, on), ({}, on),
            (ranges[:-1] + ("nobody",), on), (ranges[:-1] + (None,), on), (ranges[:-1] + ((ranges[-1],),), on),
            (ranges[:-1] + ([ranges[-1]],), on), (ranges[:-1] + (ranges[-1] + "x",), on), (ranges[:-1] + ("",), on),
            (ranges[:-1] + (ranges[-1].upper(),), on), (ranges[:-1] + (ranges[-1][:-1],), on),
            (ranges[:-1] + (nested(20),), on), (tuple(row[name] for row, name in zip(rows, ranges)), on),
        ]
    return [value for value in found if not any(is_same(value, setting) for setting in bench.settings)]


def fraction(ratio):
    return Fraction(ratio[0], ratio[1])


def pair_of(number):
    """The ratio of a Fraction."""
    return (number.numerator, number.denominator)


def is_same(one, other):
    """Whether two values are alike in all their parts and kinds."""
    if type(one) is not type(other):
        return False
    if isinstance(one, (tuple, list)):
        return len(one) == len(other) and all(is_same(x, y) for x, y in zip(one, other))
    if isinstance(one, dict):
        return is_same(list(one.items()), list(other.items()))
    return one == other


class Case(unittest.TestCase):

    def assert_same(self, found, wanted):
        self.assertTrue(is_same(found, wanted), f"{found!r} is not just {wanted!r}")

    def assert_source(self, source, volts, ohms):
        self.assertIs(type(source), Source)
        self.assert_same((source.volts, source.ohms), (volts, ohms))

    def raised(self, error, call, /, *args, **more):
        """The error of just this class that the call raises."""
        try:
            found = call(*args, **more)
        except Exception as what:
            self.assertIs(type(what), error, f"{what!r} is no {error.__name__}: {args!r}")
            return what
        return self.fail(f"no {error.__name__} but {found!r}: {args!r}")

    def assert_refused(self, error, value, call, /, *args, **more):
        """The call raises this error with this very value."""
        self.assertIs(self.raised(error, call, *args, **more).value, value)

    def assert_number(self, error, number, call, /, *args, **more):
        """The call raises this error with this integer."""
        self.assert_same(self.raised(error, call, *args, **more).value, number)

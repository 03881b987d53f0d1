"""What the tests share: values of many kinds, and comparisons that tell 1
from True and a tuple from a list."""

import unittest
from fractions import Fraction

from rangehunt.benches import Bench
from rangehunt.errors import MeterError, NoMeter
from rangehunt.sources import Source

# The bench of the examples of DOC.md.
PAIR = "\n".join((
    "meter wide",
    "  range low load 2 unit 1/10 up 4",
    "  range high load 4 unit 1 down 2",
    "meter side",
    "  range fine load 1 unit 1/10 up 11/4",
    "  range rough load 0 unit 1 down 5/2",
))

# Each sort of line, the most of each, and names that begin one another.
FULL = "\n".join((
    "spread 3",
    "meter wide",
    "  range low load 2 unit 1/10 up 4",
    "  range lower load 1/3 unit 1/2 down 2 up 9/2",
    "  range high load 4 unit 1 down 9/2",
    "meter wid",
    "  range low load 0 unit 5",
    "meter widest",
    "  range d load 1 unit 1 up 1",
    "  range c load 9999 unit 9999/9998 down 0 up 3/2",
    "  range load load 3/2 unit 1 down 1/2 up 9999",
    "  range a load 1/9999 unit 1/9999 down 9998/9999",
    "load wide 7",
    "load lamp 0",
))


def nested(depth):
    """A tuple in a list in a dict in a tuple .., as deep as this."""
    value = "end"
    for k in range(depth):
        value = ((value, 1), [value], {"a": value})[k % 3]
    return value


def any_values():
    """Values of all kinds."""
    return [
        0, 1, -1, 7, 999999999, True, False, None, "", "a", "wide", "1/2", "two words\n",
        (), (1,), (1, 2), ("a", None), [], [1, 2], ["wide"], {}, {"a": 1}, {1: [2]},
        Source((90, 1), (10, 1)), Bench(PAIR), MeterError("x"), NoMeter(("x", 1)), nested(30),
    ]


RATIOS = [
    (0, 1), (1, 1), (1, 2), (2, 1), (2, 3), (3, 2), (7, 1), (10, 1), (11, 4), (90, 1),
    (1, 9999), (9999, 9998), (999999999, 1), (1, 999999999), (123456789, 987654320),
]


def no_ratios():
    """Values that are no ratios."""
    return [
        0, 1, -1, 2, True, False, None, "", "1", "1/2", "(1, 2)", (), (1,), (1, 2, 1), (0,), (0, 1, 1),
        [], [0, 1], [1, 2], {}, {0: 1}, {0: 1, 1: 2},
        (2, 4), (2, 2), (6, 3), (999999999, 3), (0, 2), (0, 0), (1, 0), (-1, 2), (1, -2), (-1, -2), (0, -1),
        (True, 1), (True, 2), (False, 1), (1, True), (2, True), (0, True), (True, True), (1, False),
        ("1", 1), (1, "1"), ("1", "2"), (1, None), (None, 1), ((1, 1), 1), (1, (1, 1)), ((1, 2),), ([1], 2), (1, [2]),
        Source((1, 2), (1, 1)), Bench(PAIR), MeterError((1, 2)), nested(30),
    ]


def fraction(ratio):
    return Fraction(ratio[0], ratio[1])


def pair_of(number):
    """The ratio of a Fraction."""
    return (number.numerator, number.denominator)


def is_same(one, other):
    """Whether two values are alike in all their parts and kinds."""
    if type(one) is not type(other):
        return False
    if isinstance(one, (tuple, list)):
        return len(one) == len(other) and all(is_same(x, y) for x, y in zip(one, other))
    if isinstance(one, dict):
        return is_same(list(one.items()), list(other.items()))
    return one == other


class Case(unittest.TestCase):

    def assert_same(self, found, wanted):
        self.assertTrue(is_same(found, wanted), f"{found!r} is not just {wanted!r}")

    def assert_source(self, source, volts, ohms):
        self.assertIs(type(source), Source)
        self.assert_same((source.volts, source.ohms), (volts, ohms))

    def raised(self, error, call, *args, **more):
        """The error of just this class that the call raises."""
        try:
            found = call(*args, **more)
        except Exception as what:
            self.assertIs(type(what), error, f"{what!r} is no {error.__name__}: {args!r}")
            return what
        return self.fail(f"no {error.__name__} but {found!r}: {args!r}")

    def assert_refused(self, error, value, call, *args, **more):
        """The call raises this error with this very value."""
        self.assertIs(self.raised(error, call, *args, **more).value, value)

    def assert_number(self, error, number, call, *args):
        """The call raises this error with this integer."""
        self.assert_same(self.raised(error, call, *args).value, number)

"""What all parts share: kinds of values, ratios, and ascending tuples."""

from math import gcd

ZERO = (0, 1)


def is_integer(value):
    """Whether this is an int that is not a bool."""
    return isinstance(value, int) and not isinstance(value, bool)


def is_ratio(value):
    """Whether this is a pair (n, d) of integers as a ratio has it."""
    if not isinstance(value, tuple) or len(value) != 2:
        return False
    above, below = value
    if not is_integer(above) or not is_integer(below):
        return False
    return above >= 0 and below >= 1 and gcd(above, below) == 1


def is_name(word):
    """Whether this string has 1 to 8 letters a to z."""
    return 1 <= len(word) <= 8 and all(["a" <= sign <= "z" for sign in word])


def ratio(above, below):
    """The ratio of an integer from 0 on and one from 1 on."""
    common = gcd(above, below)
    return (above // common, below // common)


def plus(one, other):
    """The sum of two ratios."""
    return ratio(one[0] * other[1] + other[0] * one[1], one[1] * other[1])


def times(one, other):
    """The product of two ratios."""
    return ratio(one[0] * other[0], one[1] * other[1])


def over(one, other):
    """The ratio that times other, which is above 0, is one."""
    return ratio(one[0] * other[1], one[1] * other[0])


def at_least(one, other):
    """Whether the first ratio is at least the second one."""
    return one[0] * other[1] >= other[0] * one[1]


def ratio_between(low, high):
    """A ratio above low and, unless that is None, below high, with short parts."""
    parts = 1
    while True:
        above = low[0] * parts // low[1] + 1
        if high is None or above * high[1] < high[0] * parts:
            return ratio(above, parts)
        parts = parts * 2


def whole_of(word):
    """The integer of which this string is the text, None if there is none."""
    if not word.isascii() or not word.isdigit():
        return None
    if len(word) > 1 and word[0] == "0":
        return None
    return int(word)


def ratio_of(word):
    """The ratio of which this string is the text, None if there is none."""
    above, slash, below = word.partition("/")
    pair = (whole_of(above), whole_of(below) if slash else 1)
    if not is_ratio(pair) or (slash and pair[1] == 1):
        return None
    return pair


def text_of(pair):
    """The text of a ratio."""
    above, below = pair
    return f"{above}" if below == 1 else f"{above}/{below}"


def is_same(one, other):
    """Whether two values are equal in all their parts, True and 1 not being so."""
    if isinstance(one, tuple) and isinstance(other, tuple):
        return len(one) == len(other) and all([is_same(part, by) for part, by in zip(one, other)])
    return isinstance(one, bool) == isinstance(other, bool) and one == other


def merged(one, other):
    """Two ascending tuples as one."""
    rows = []
    at = 0
    by = 0
    while at < len(one) and by < len(other):
        if other[by] < one[at]:
            rows.append(other[by])
            by += 1
        else:
            rows.append(one[at])
            at += 1
    return tuple(rows) + one[at:] + other[by:]


def ascending(rows):
    """The tuple of these rows in ascending sequence.

    It does not rest on sorted, which is kept to plain numbers and strings,
    as the >= of Sources is no order to sort by.
    """
    if len(rows) < 2:
        return tuple(rows)
    half = len(rows) // 2
    return merged(ascending(rows[:half]), ascending(rows[half:]))

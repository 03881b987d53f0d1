"""Benches and sources that are drawn, the same ones in each run, and values
that are bent."""

import random

from rangehunt.benches import Bench
from rangehunt.sources import Source
from tests.tools import pair_of
from tests.world import own_lines

METERS = ("ab", "a", "abc")
RANGES = ("low", "lo", "b", "lower")
LOADS = ("z", "a")
PARTS = (
    (("0", "1", "2"), ("1", "2", "3", "4", "6")),
    (("0", "1", "2", "3", "5", "11"), ("1", "2", "3", "4", "6", "12")),
    (("1", "1/2", "1/3", "2", "3"), ("1/2", "1", "3/2", "2", "3", "4")),
    (("0", "7/3", "9999", "1/9999"), ("5/7", "1", "9998/9999", "17", "9999")),
)


def number(word):
    above, _, below = word.partition("/")
    return int(above) / int(below or 1)


def drawn_ranges(rng, many, loads, thresholds, slope):
    """The lines of so many ranges; slope tells how their loads go: up, down, or as they like."""
    ups = sorted(rng.sample(thresholds, many - 1), key=number)
    draws = [rng.choice(loads) for _ in range(many)]
    if slope:
        draws.sort(key=number, reverse=slope < 0)
    lines = []
    for k in range(many):
        line = f"  range {RANGES[k]} load {draws[k]} unit {rng.choice(('1', '1/10', '2/3', '5'))}"
        if k:
            most = number(ups[k - 1])
            downs = ["0"] + 4 * [word for word in thresholds if number(word) <= most]
            line += f" down {rng.choice(downs)}"
        if k < many - 1:
            line += f" up {ups[k]}"
        lines.append(line)
    return lines


def drawn_text(rng, slope=0, hands=None):
    """The text of any bench: its loads go up behind each other with a slope of 1, down with -1."""
    loads, thresholds = rng.choice(PARTS)
    lines = [f"spread {rng.choice((1, 5, 10, 20))}"] if rng.randrange(4) == 0 else []
    for meter in rng.sample(METERS, rng.choice((1, 2, 2, 2, 3))):
        lines.append(f"meter {meter}")
        lines += drawn_ranges(rng, rng.choice((1, 2, 2, 2, 3, 4)), loads, thresholds, slope)
    many = rng.choice((0, 1, 2)) if hands is None else hands
    for load in rng.sample(LOADS, many):
        lines.append(f"load {load} {rng.choice(loads)}")
    return "\n".join(lines)


def drawn_benches(seed, many, slope=0, hands=None, most_lines=16, most_settings=24):
    """So many benches, none too large for a search that tries all."""
    rng = random.Random(seed)
    found = []
    while len(found) < many:
        bench = Bench(drawn_text(rng, slope, hands))
        if len(own_lines(bench)) <= most_lines and len(bench.settings) <= most_settings:
            found.append(bench)
    return found


def source_of(point):
    """The Source of a pair (volts, ohms) of fractions."""
    return Source(pair_of(point[0]), pair_of(point[1]))


ODD = (None, True, False, 0, 1, -1, "", "up", "down", "calm", "hunts", "low", (), [], {}, ("low",), (("low",), ()))


def bent_once(rng, value, others):
    """This value with something changed somewhere in it."""
    if isinstance(value, tuple) and value and rng.randrange(6):
        k = rng.randrange(len(value))
        part = bent_once(rng, value[k], others) if rng.randrange(3) else None
        if part is not None:
            return value[:k] + (part,) + value[k + 1:]
        j = rng.randrange(len(value))
        return rng.choice((
            value[:k] + value[k + 1:], value[:k] + value[k:k + 1] + value[k:], value[k:] + value[:k], value[:k],
            value[::-1], value + value, value[:j] + value[k:k + 1] + value[j:], list(value), (value,), value + ((),),
            swapped(value, k, j), swapped(value, k, j), swapped(value, k, k - 1),
        ))
    if isinstance(value, Source):
        return rng.choice(others + ((value.volts, value.ohms), None))
    if isinstance(value, str):
        return rng.choice((value[:-1], value + "a", value.upper(), (value,), None, "up", "down") + RANGES + METERS + LOADS)
    return rng.choice(ODD + others)


def swapped(value, k, j):
    """The tuple with these two of its items in each other's place."""
    parts = list(value)
    parts[k], parts[j] = parts[j], parts[k]
    return tuple(parts)


def bent(rng, value, others, many):
    """So many values that are bent once or, some of them, twice."""
    found = []
    for _ in range(many):
        one = bent_once(rng, value, others)
        found.append(bent_once(rng, one, others) if rng.randrange(4) == 0 else one)
    return found

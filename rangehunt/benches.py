"""Benches: the text of meters, their ranges and loads."""

from rangehunt.basics import ascending, at_least, is_integer, is_name, ratio, ratio_of, times
from rangehunt.errors import BadBench, BadSpread, LastMeter, NoLoad, NoMeter

MOST_METERS = 3
MOST_RANGES = 4
MOST_LOADS = 2
MOST_SPREAD = 20
MOST_PART = 9999
LONGEST_RATIO = 9


def figure_of(word):
    """The ratio of a word of a bench, None if no such word can stand there."""
    # Python refuses to read an int of thousands of figures, so it is not asked to.
    if len(word) > LONGEST_RATIO:
        return None
    found = ratio_of(word)
    if found is None or found[0] > MOST_PART or found[1] > MOST_PART:
        return None
    return found


def line_at(lines, at):
    """The line of this index.

    Behind the last one it is a line of no signs, which can stand nowhere: so
    a missing line is told like a wrong one, by the number that it would have.
    """
    return lines[at] if at < len(lines) else ""


def spread_of(line):
    """N if this is a line `spread N`, otherwise 0."""
    for many in range(1, MOST_SPREAD + 1):
        if line == f"spread {many}":
            return many
    return 0


def is_in_sequence(told, ahead):
    """Whether the thresholds of a range fit behind that of the range ahead."""
    if not at_least(ahead, told["down"]):
        return False
    return "up" not in told or not at_least(ahead, told["up"])


def range_of(line, ranges):
    """The range of a line behind these ranges of its meter: (name, G, S, D, U).

    D and U are None where the line has none. None if it cannot stand there.
    """
    words = line.split(" ")
    plain = ["load", "unit", "down"] if ranges else ["load", "unit"]
    marks = words[4::2]
    if words[:3] != ["", "", "range"] or len(words) % 2 == 1:
        return None
    if marks != plain and (marks != [*plain, "up"] or len(ranges) == MOST_RANGES - 1):
        return None
    name = words[3]
    if not is_name(name) or name in [row[0] for row in ranges]:
        return None
    told = {mark: figure_of(word) for mark, word in zip(marks, words[5::2])}
    if any([told[mark] is None for mark in told]):
        return None
    if any([told[mark] == (0, 1) for mark in told if mark in ("unit", "up")]):
        return None
    if ranges and not is_in_sequence(told, ranges[-1][4]):
        return None
    return (name, told["load"], told["unit"], told.get("down"), told.get("up"))


def read_meter(lines, at, meters):
    """(name, ranges, behind): the meter of the line with the index at, which
    stands behind these meters, and the index behind its last range."""
    words = line_at(lines, at).split(" ")
    if len(words) != 2 or words[0] != "meter" or not is_name(words[1]) or words[1] in meters:
        raise BadBench(at + 1)
    ranges = []
    is_last = False
    while not is_last:
        at = at + 1
        found = range_of(line_at(lines, at), ranges)
        if found is None:
            raise BadBench(at + 1)
        ranges.append(found)
        is_last = found[4] is None
    return words[1], ranges, at + 1


def read_meters(lines, at):
    """(meters, behind): the ranges by the names of the meters, and the index
    of the line behind them all."""
    meters = {}
    while not meters or (len(meters) < MOST_METERS and line_at(lines, at).startswith("meter")):
        name, ranges, at = read_meter(lines, at, meters)
        meters[name] = ranges
    return meters, at


def read_loads(lines, at):
    """The ratios by the names of the loads, which are all lines from at on."""
    loads = {}
    for index in range(at, len(lines)):
        words = lines[index].split(" ")
        if len(loads) == MOST_LOADS or len(words) != 3 or words[0] != "load":
            raise BadBench(index + 1)
        found = figure_of(words[2])
        if not is_name(words[1]) or words[1] in loads or found is None:
            raise BadBench(index + 1)
        loads[words[1]] = found
    return loads


def lowered(ranges, spread):
    """These ranges with their lower thresholds less by the spread."""
    share = ratio(MOST_SPREAD - spread, MOST_SPREAD)
    rows = []
    for name, load, unit, down, top in ranges:
        rows.append((name, load, unit, None if down is None else times(down, share), top))
    return tuple(rows)


def all_settings(ranges, loads):
    """The ascending tuple of the settings of these meters and loads."""
    places = [()]
    for meter in ranges:
        places = [(*place, row[0]) for place in places for row in ranges[meter]]
    choices = [()]
    for load in loads:
        choices = choices + [(*choice, load) for choice in choices]
    return ascending([(place, choice) for place in places for choice in choices])


class Bench:
    """A bench of one to three meters, as its text tells it."""

    def __init__(self, text):
        if not isinstance(text, str):
            raise BadBench(0)
        lines = text.split("\n")
        spread = spread_of(lines[0])
        meters, behind = read_meters(lines, 1 if spread else 0)
        loads = read_loads(lines, behind)
        self._text = text
        self._spread = spread
        self._ranges = {meter: lowered(meters[meter], spread) for meter in meters}
        self._loads = loads
        self._settings = all_settings(self._ranges, loads)

    @property
    def text(self):
        """The text of which the bench was made."""
        return self._text

    @property
    def meters(self):
        """The names of the meters, in the sequence of the text."""
        return tuple([meter for meter in self._ranges])

    @property
    def loads(self):
        """The names of the loads, in the sequence of the text."""
        return tuple([load for load in self._loads])

    @property
    def spread(self):
        """By how many twentieths all lower thresholds are less."""
        return self._spread

    @property
    def settings(self):
        """The ascending tuple of all settings."""
        return self._settings

    @property
    def first(self):
        """The setting with all first ranges and no load on."""
        return (tuple([self._ranges[meter][0][0] for meter in self._ranges]), ())

    def load(self, name):
        """The ratio of the load of this name."""
        if not isinstance(name, str) or name not in self._loads:
            raise NoLoad(name)
        return self._loads[name]

    def without(self, meter):
        """The Bench without the lines of this meter."""
        if meter not in self:
            raise NoMeter(meter)
        if len(self) == 1:
            raise LastMeter(meter)
        kept = []
        is_left_out = False
        for line in self._text.split("\n"):
            if not line.startswith(" "):
                is_left_out = line == f"meter {meter}"
            if not is_left_out:
                kept.append(line)
        return Bench("\n".join(kept))

    def spread_by(self, many):
        """The Bench of the other lines with this spread, without one if it is 0."""
        if not is_integer(many) or many < 0 or many > MOST_SPREAD:
            raise BadSpread(many)
        lines = self._text.split("\n")
        rest = lines[1:] if self._spread else lines
        return Bench("\n".join([f"spread {many}", *rest] if many else rest))

    def __getitem__(self, at):
        if at not in self:
            raise NoMeter(at)
        return self._ranges[at]

    def __len__(self):
        return len(self._ranges)

    def __contains__(self, x):
        return isinstance(x, str) and x in self._ranges

    def __eq__(self, other):
        return isinstance(other, Bench) and self.text == other.text

    def __iter__(self):
        raise TypeError("a bench is not gone over")

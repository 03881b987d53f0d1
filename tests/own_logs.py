"""An own account of section 11, with fractions: what a log asks of the source,
and between which bounds this leaves it, found by going along the ohms from each
meeting of two conditions to the next one."""

from fractions import Fraction
from itertools import combinations

from rangehunt.sources import Source
from tests.drawn import source_of
from tests.tools import fraction, is_same, pair_of
from tests.world import World, own_draw, range_at, world_at


def is_behind(bench, setting, goal):
    """("step", meter, way), ("turn", load), ("same",), or None for what cannot stand behind setting."""
    world = World(bench, Fraction(0), Fraction(0))
    if setting == goal:
        return ("same",)
    for meter in bench.meters:
        for way in ("up", "down"):
            if world.after(setting, (meter, way)) == goal:
                return ("step", meter, way)
    for load in bench.loads:
        if world.turned(setting, load) == goal:
            return ("turn", load)
    return None


def own_is_log(bench, value):
    if type(value) is not tuple or len(value) not in range(1, 13):
        return False
    for sight in value:
        if type(sight) is not tuple or len(sight) != 2 or not any(is_same(sight[0], one) for one in bench.settings):
            return False
        if type(sight[1]) is not tuple or len(sight[1]) != len(bench.meters):
            return False
        if not all(type(figure) is int and figure >= 0 for figure in sight[1]):
            return False
    return all(is_behind(bench, one[0], other[0]) for one, other in zip(value, value[1:]))


def own_conditions(bench, log):
    """The conditions with fractions, in their sequence."""
    found = []
    for k, (setting, figures) in enumerate(log):
        draw = own_draw(bench, setting)
        for meter, figure in zip(bench.meters, figures):
            unit = fraction(range_at(bench, setting, meter)[1][2])
            found.append((figure * unit, figure * unit * draw, "least"))
            found.append(((figure + 1) * unit, (figure + 1) * unit * draw, "below"))
        way = is_behind(bench, setting, log[k + 1][0]) if k + 1 < len(log) else ("same",)
        if way[0] == "step":
            lower, upper = range_at(bench, setting, way[1])[1][3:]
            part = fraction(upper if way[2] == "up" else lower)
            found.append((part, part * draw, "least" if way[2] == "up" else "below"))
    return found


def as_told(asked):
    """Own conditions as conditions tells them."""
    return tuple((pair_of(u), pair_of(m), word) for u, m, word in asked)


def does_hold(asked, volts, ohms):
    return all((volts >= u + m * ohms) == (word == "least") for u, m, word in asked)


class Left:
    """Which sources fit: those of these ohms with volts from lower to below upper."""

    def __init__(self, asked):
        self.least = [(u, m) for u, m, word in asked if word == "least"]
        self.below = [(u, m) for u, m, word in asked if word == "below"]
        ends = {Fraction(0)}
        for one, other in combinations(set(self.least + self.below), 2):
            if one[1] != other[1] and (other[0] - one[0]) / (one[1] - other[1]) > 0:
                ends.add((other[0] - one[0]) / (one[1] - other[1]))
        ends = sorted(ends)
        # Pieces (start, a place in it, end): the place is the piece itself, or between two of these.
        pieces = [(end, end, end) for end in ends]
        pieces += [(one, (one + other) / 2, other) for one, other in zip(ends, ends[1:])]
        pieces.append((ends[-1], ends[-1] + 1, None))
        self.pieces = sorted((row for row in pieces if self.lower(row[1]) < self.upper(row[1])), key=lambda row: row[1])

    def lower(self, ohms):
        return max(u + m * ohms for u, m in self.least)

    def upper(self, ohms):
        return min(u + m * ohms for u, m in self.below)

    def ohms(self):
        """(low, high) as extent tells them."""
        start, place, _ = self.pieces[0]
        end = self.pieces[-1][2]
        return (pair_of(start), start == place), () if end is None else pair_of(end)

    def reading(self, draw):
        """(least, most) as between tells them for a setting with this draw."""
        lows, highs, taken = [], [], []
        for start, place, end in self.pieces:
            taken.append(self.lower(place) / (1 + place * draw))
            for ohms in (start, end):
                if ohms is not None:
                    lows.append(self.lower(ohms) / (1 + ohms * draw))
                    highs.append(self.upper(ohms) / (1 + ohms * draw))
            if end is None:
                self.go_on(place, draw, lows, highs)
        least = min(lows)
        most = () if None in highs else pair_of(max(highs))
        return (pair_of(least), least in taken), most

    def go_on(self, place, draw, lows, highs):
        """Behind this place nothing meets any more: what is read with ever more ohms."""
        for bound, found in ((self.lower, lows), (self.upper, highs)):
            slope = bound(place + 1) - bound(place)
            if draw > 0:
                found.append(slope / draw)
            elif slope == 0:
                found.append(bound(place))
            elif found is highs:
                found.append(None)


def right_fits(bench, log, value):
    """Whether this is right as what fits tells."""
    asked = own_conditions(bench, log)
    if type(value) is not tuple or len(value) != 2:
        return False
    if is_same(value[0], "fits"):
        return type(value[1]) is Source and does_hold(asked, fraction(value[1].volts), fraction(value[1].ohms))
    return is_same(value[0], "never") and right_weights(asked, value[1])


def right_weights(asked, rows):
    if type(rows) is not tuple or not all(type(row) is tuple and len(row) == 2 for row in rows):
        return False
    total, is_below = [Fraction(0)] * 3, False
    for k, (index, weight) in enumerate(rows):
        if type(index) is not int or index not in range(len(asked)) or (k and index <= rows[k - 1][0]):
            return False
        if type(weight) is not tuple or len(weight) != 2 or not all(type(part) is int and part > 0 for part in weight):
            return False
        if pair_of(fraction(weight)) != weight:
            return False
        u, m, word = asked[index]
        sign = 1 if word == "least" else -1
        total = [one + fraction(weight) * part for one, part in zip(total, (sign, -sign * m, -sign * u))]
        is_below = is_below or word == "below"
    return total[0] <= 0 and total[1] <= 0 and (total[2] < 0 or (total[2] == 0 and is_below))


def walk_log(rng, bench, volts, ohms, many):
    """A log of so many sights that are seen on this source, by steps, turned loads, and waiting."""
    world = world_at(bench, volts, ohms)
    setting = rng.choice(bench.settings)
    log = []
    for _ in range(many):
        figures = tuple(
            int(world.reads(setting) / fraction(range_at(bench, setting, meter)[1][2])) for meter in bench.meters
        )
        log.append((setting, figures))
        onward = list(world.deeds(setting).values()) + [setting]
        setting = rng.choice(onward)
    return tuple(log)


def strayed(rng, bench, log):
    """The log with some figures changed, or with steps that were not possible."""
    rows = list(log)
    for _ in range(rng.choice((1, 1, 2))):
        k = rng.randrange(len(rows))
        setting, figures = rows[k]
        at = rng.randrange(len(figures))
        figure = max(0, figures[at] + rng.choice((-2, -1, 1, 1, 2, 7)))
        rows[k] = (setting, figures[:at] + (figure,) + figures[at + 1:])
    if rng.randrange(3) == 0 and len(rows) < 12:
        setting, figures = rows[-1]
        around = [one for one in bench.settings if is_behind(bench, setting, one)]
        rows.append((rng.choice(around), figures))
    return tuple(rows)


def drawn_logs(rng, bench, many):
    """So many logs: some that were seen on a source, and some that stray from it."""
    found = []
    for _ in range(many):
        volts = Fraction(rng.randrange(120), rng.choice((1, 1, 2, 7)))
        ohms = Fraction(rng.choice((0, 0, 1, 1, 3, 10, rng.randrange(40))), rng.choice((1, 1, 2, 5)))
        log = walk_log(rng, bench, volts, ohms, rng.choice((1, 1, 2, 3, 4, 6, 12)))
        found.append(strayed(rng, bench, log) if rng.randrange(2) else log)
    return found


def fitting_sources(rng, asked, many):
    """So many sources that fit, some of them at the very bounds."""
    left = Left(asked)
    found = []
    for _ in range(many):
        ohms = rng.choice(left.pieces)[1]
        low, high = left.lower(ohms), left.upper(ohms)
        found.append(source_of((low + (high - low) * rng.choice((0, 0, Fraction(1, 2), Fraction(99, 100))), ohms)))
    return found

"""An own account of sections 6 to 9, word by word and with fractions: what a
bench does on a source, and whether any value is what a function may tell."""

from fractions import Fraction
from functools import wraps
from itertools import combinations

from rangehunt.sources import Source
from tests.tools import fraction, is_same


def remembered(told):
    """The function, but that what it told of a bench is not found out again."""
    known = {}

    @wraps(told)
    def telling(bench, *args):
        key = (bench.text, *args)
        if key not in known:
            known[key] = told(bench, *args)
        return known[key]
    return telling


def range_at(bench, setting, meter):
    """(index, range) of this meter in this setting."""
    name = setting[0][bench.meters.index(meter)]
    return [(k, row) for k, row in enumerate(bench[meter]) if row[0] == name][0]


@remembered
def own_draw(bench, setting):
    ranges = sum(fraction(range_at(bench, setting, meter)[1][1]) for meter in bench.meters)
    return ranges + sum(fraction(bench.load(load)) for load in setting[1])


@remembered
def own_lines(bench):
    """The lines, as a set of pairs of fractions."""
    found = set()
    for setting in bench.settings:
        load = own_draw(bench, setting)
        for meter in bench.meters:
            for part in range_at(bench, setting, meter)[1][3:]:
                if part is not None and part[0] > 0:
                    found.add((fraction(part), fraction(part) * load))
    return found


def meetings(lines):
    """The lines that meet in each point, by (ohms, volts), at ohms above 0."""
    points = {}
    for one, other in combinations(sorted(lines), 2):
        if one[1] != other[1]:
            ohms = (other[0] - one[0]) / (one[1] - other[1])
            if ohms > 0:
                points.setdefault((ohms, one[0] + one[1] * ohms), set()).update((one, other))
    return points


def count_among(lines):
    """How many classes these lines make, by the points at which they meet."""
    return len(lines) + 1 + sum(len(found) - 1 for found in meetings(lines).values())


@remembered
def own_count(bench):
    return count_among(own_lines(bench))


@remembered
def own_class(bench, volts, ohms):
    """The lines that are reached."""
    return frozenset(line for line in own_lines(bench) if volts >= line[0] + line[1] * ohms)


def points_among(lines):
    """Points (volts, ohms) by their classes: of each class those that are found
    on lines, where lines meet, between, beyond, and at 0."""
    ends = [Fraction(0)] + sorted({ohms for ohms, _ in meetings(lines)})
    places = ends + [(one + other) / 2 for one, other in zip(ends, ends[1:])] + [ends[-1] + 1]
    found = {}
    for ohms in places:
        rows = {}
        for u, m in lines:
            rows.setdefault(u + m * ohms, []).append((u, m))
        reached, low = frozenset(), Fraction(0)
        for volts in sorted(rows) + [None]:
            # Below the next line, and on the one below it.
            high = low + 1 if volts is None else volts
            found.setdefault(reached, []).extend(((low, ohms), ((low + high) / 2, ohms)))
            reached, low = reached.union(rows.get(volts, ())), high
    return found


@remembered
def own_points(bench):
    return points_among(own_lines(bench))


def class_of(bench, source):
    return own_class(bench, fraction(source.volts), fraction(source.ohms))


def world_of(bench, source):
    """The World of the bench on this source."""
    return world_at(bench, fraction(source.volts), fraction(source.ohms))


@remembered
def world_at(bench, volts, ohms):
    return World(bench, volts, ohms)


def going_on(setting, ways):
    """The set of the settings to which these ways lead from this one."""
    found, left = set(), [setting]
    while left:
        here = left.pop()
        if here not in found:
            found.add(here)
            left += ways(here).values()
    return found


class World:
    """A bench on a source."""

    def __init__(self, bench, volts, ohms):
        self.bench = bench
        self.volts, self.ohms = volts, ohms
        self.known = {}
        self.found = {}

    def reads(self, setting):
        return self.volts / (1 + self.ohms * own_draw(self.bench, setting))

    def after(self, setting, step):
        """The setting behind a step, None if there is none."""
        k, _ = range_at(self.bench, setting, step[0])
        at = k + {"up": 1, "down": -1}[step[1]]
        if at not in range(len(self.bench[step[0]])):
            return None
        name = self.bench[step[0]][at][0]
        ranges = tuple(name if meter == step[0] else old for meter, old in zip(self.bench.meters, setting[0]))
        return (ranges, setting[1])

    def turned(self, setting, load):
        return (setting[0], tuple(name for name in self.bench.loads if (name in setting[1]) ^ (name == load)))

    def steps(self, setting):
        """The settings behind the possible steps, by these steps."""
        if setting not in self.known:
            read = self.reads(setting)
            self.known[setting] = {}
            for meter in self.bench.meters:
                lower, upper = range_at(self.bench, setting, meter)[1][3:]
                if upper is not None and read >= fraction(upper):
                    self.known[setting][(meter, "up")] = self.after(setting, (meter, "up"))
                if lower is not None and read < fraction(lower):
                    self.known[setting][(meter, "down")] = self.after(setting, (meter, "down"))
        return self.known[setting]

    def deeds(self, setting):
        hands = {(load,): self.turned(setting, load) for load in self.bench.loads}
        return {**self.steps(setting), **hands}

    def reached(self, setting):
        """The set of the settings that come from this one."""
        if setting not in self.found:
            self.found[setting] = going_on(setting, self.steps)
        return self.found[setting]

    def rests(self, setting):
        return {one for one in self.reached(setting) if not self.steps(one)}

    def can_hunt(self, setting):
        """Whether some setting comes back to itself."""
        return any(
            one in self.reached(behind) for one in self.reached(setting) for behind in self.steps(one).values()
        )

    def walk(self, setting, row, ways=None):
        """The setting behind a row, None if it is none that can be walked."""
        if type(row) is not tuple:
            return None
        for step in row:
            found = [behind for one, behind in (ways or self.steps)(setting).items() if is_same(one, step)]
            if not found:
                return None
            setting = found[0]
        return setting

    def moved(self, setting, one):
        """Whether this is a rest with the loads of setting that does not come from it by steps alone."""
        return not self.steps(one) and one[1] == setting[1] and one not in self.reached(setting)


def is_tuple(value, many):
    return type(value) is tuple and len(value) == many


def are_settings(bench, value):
    return type(value) is tuple and all(any(is_same(one, other) for other in bench.settings) for one in value)


def right_order(world, setting, value):
    if not are_settings(world.bench, value) or sorted(value) != sorted(world.reached(setting)):
        return False
    return all(value.index(one) < value.index(behind) for one in value for behind in world.steps(one).values())


def right_hunt(world, setting, row, ring):
    start = world.walk(setting, row)
    return start is not None and type(ring) is tuple and len(ring) > 0 and world.walk(start, ring) == start


def right_ring(bench, setting, source, value):
    world = world_of(bench, source)
    if is_tuple(value, 2) and value[0] == "calm":
        return right_order(world, setting, value[1])
    return is_tuple(value, 3) and value[0] == "hunts" and right_hunt(world, setting, value[1], value[2])


def right_samples(bench, value):
    if type(value) is not tuple or not all(type(source) is Source for source in value):
        return False
    found = {class_of(bench, source) for source in value}
    return len(value) == len(found) == own_count(bench)


def right_rows(bench, value, is_right):
    if type(value) is not tuple or not all(is_tuple(row, 2) for row in value):
        return False
    if not right_samples(bench, tuple(row[0] for row in value)):
        return False
    return all(is_right(world_of(bench, source), told) for source, told in value)


def right_calm(bench, setting, value):
    if is_tuple(value, 2) and value[0] == "calm":
        return right_rows(bench, value[1], lambda world, told: right_order(world, setting, told))
    if not is_tuple(value, 4) or value[0] != "hunts" or type(value[1]) is not Source:
        return False
    return right_hunt(world_of(bench, value[1]), setting, value[2], value[3])


def right_kept(bench, setting, value, ways):
    if not are_settings(bench, value) or list(value) != sorted(set(value)) or setting not in value:
        return False
    return all(behind in value for one in value for behind in ways(one).values())


def right_comes(bench, setting, goal, value):
    if is_tuple(value, 2) and value[0] == "never":
        return right_rows(bench, value[1], lambda world, told: (
            right_kept(bench, setting, told, world.steps) and not (goal in told and not world.steps(goal))
        ))
    if not is_tuple(value, 3) or value[0] != "comes" or type(value[1]) is not Source:
        return False
    world = world_of(bench, value[1])
    return world.walk(setting, value[2]) == goal and not world.steps(goal)


def right_alone(bench, setting, value):
    if is_tuple(value, 2) and value[0] == "one":
        return right_rows(bench, value[1], lambda world, told: (
            len(world.rests(setting)) <= 1 and is_same(told, tuple(sorted(world.rests(setting))))
        ))
    if not is_tuple(value, 4) or value[0] != "two" or type(value[1]) is not Source:
        return False
    world = world_of(bench, value[1])
    ends = [world.walk(setting, row) for row in value[2:]]
    return None not in ends and not any(world.steps(end) for end in ends) and ends[0] != ends[1]


def right_keeps(bench, setting, value):
    if is_tuple(value, 2) and value[0] == "keeps":
        return right_rows(bench, value[1], lambda world, told: (
            right_kept(bench, setting, told, world.deeds) and not any(world.moved(setting, one) for one in told)
        ))
    if not is_tuple(value, 3) or value[0] != "moved" or type(value[1]) is not Source:
        return False
    world = world_of(bench, value[1])
    end = world.walk(setting, value[2], world.deeds)
    return end is not None and world.moved(setting, end)

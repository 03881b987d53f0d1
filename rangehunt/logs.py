"""Logs: what the figures that were shown say of the source."""

from math import lcm

from rangehunt.basics import ZERO, ascending, at_least, is_integer, is_ratio, ratio, ratio_between, times
from rangehunt.classes import volts_on
from rangehunt.errors import BadLog, NoFit
from rangehunt.resting import is_told
from rangehunt.sources import Source
from rangehunt.stepping import WAYS, draw_of, need_setting, ranges_of, reaches, setting_behind, turned

MOST_SIGHTS = 12


def is_sight(bench, value):
    """Whether this is a pair of a setting and of a figure for each meter."""
    if not isinstance(value, tuple) or len(value) != 2 or value[0] not in bench.settings:
        return False
    figures = value[1]
    if not isinstance(figures, tuple) or len(figures) != len(bench):
        return False
    return all([is_integer(figure) and figure >= 0 for figure in figures])


def step_between(bench, setting, goal):
    """The step that leads from one setting to the other one, None if none does."""
    for meter in bench.meters:
        for way in WAYS:
            if setting_behind(bench, setting, (meter, way)) == goal:
                return (meter, way)
    return None


def can_follow(bench, setting, goal):
    """Whether a sight in the setting goal may stand behind one in setting."""
    if goal == setting or goal in [turned(bench, setting, load) for load in bench.loads]:
        return True
    return step_between(bench, setting, goal) is not None


def need_log(bench, log):
    """Refuse what is no log of the bench."""
    if not isinstance(log, tuple) or not 1 <= len(log) <= MOST_SIGHTS:
        raise BadLog(log)
    if not all([is_sight(bench, sight) for sight in log]):
        raise BadLog(log)
    if not all([can_follow(bench, log[at][0], log[at + 1][0]) for at in range(len(log) - 1)]):
        raise BadLog(log)


def conditions_of_figures(bench, sight):
    """The conditions that the figures of a sight set, meter by meter."""
    setting, figures = sight
    load = draw_of(bench, setting)
    found = []
    for row, figure in zip(ranges_of(bench, setting), figures):
        for many, word in ((figure, "least"), (figure + 1, "below")):
            volts = times(row[2], (many, 1))
            found.append((volts, times(volts, load), word))
    return found


def condition_of_step(bench, setting, step):
    """The condition that makes this step possible."""
    meter, way = step
    row = ranges_of(bench, setting)[bench.meters.index(meter)]
    threshold, word = (row[4], "least") if way == "up" else (row[3], "below")
    return (threshold, times(threshold, draw_of(bench, setting)), word)


def conditions_of(bench, log):
    """The conditions of a log, sight by sight."""
    found = []
    for at, sight in enumerate(log):
        found.extend(conditions_of_figures(bench, sight))
        if at + 1 < len(log):
            step = step_between(bench, sight[0], log[at + 1][0])
            if step is not None:
                found.append(condition_of_step(bench, sight[0], step))
    return tuple(found)


def in_units(asked):
    """(unit, rows): a unit, and conditions (u, m, is_below) with u and m as
    integers of which the unit is 1."""
    unit = 1
    for u, m, _ in asked:
        unit = lcm(unit, u[1], m[1])
    return unit, [(u[0] * (unit // u[1]), m[0] * (unit // m[1]), word == "below") for u, m, word in asked]


def demands(asked, load):
    """What conditions ask of the source as it is with this load on, in rows
    (a, b, c, is_above): a * volts + b * ohms + c is at least 0, or above 0.

    Volts v behind r ohms are v / (1 + r G) behind r / (1 + r G) ohms with a
    load of G on: the conditions stay such ones there, and the ohms are below 1 / G.
    """
    unit, rows = in_units(asked)
    above, below = load
    found = [(0, 1, 0, False), (0, -above, below, True)]
    for u, m, is_below in rows:
        sign = -1 if is_below else 1
        found.append((sign * unit * below, sign * (u * above - m * below), sign * -u * below, is_below))
    return found


def without_second(rows):
    """What rows (a, b, c, is_above) ask of the first number, whatever the
    second one is, in rows (a, c, is_above)."""
    found = [(a, c, is_above) for a, b, c, is_above in rows if b == 0]
    for one in [row for row in rows if row[1] > 0]:
        for other in [row for row in rows if row[1] < 0]:
            a = one[0] * -other[1] + other[0] * one[1]
            c = one[2] * -other[1] + other[2] * one[1]
            found.append((a, c, one[3] or other[3]))
    return found


def bounds(rows):
    """((least, is_taken), most) of the numbers from 0 on of which rows
    (a, c, is_above) ask; most is () if there is none. None if no number is left.

    What does not ask for more stems from a condition with the word below: it
    asks for above 0, and the most is never taken.
    """
    low = (ZERO, True)
    high = ()
    for a, c, is_above in rows:
        if a <= 0 and c <= 0:
            return None
        if c <= 0:
            bound = ratio(-c, a)
            if not at_least(low[0], bound):
                low = (bound, not is_above)
            elif bound == low[0] and is_above:
                low = (bound, False)
        elif a < 0:
            bound = ratio(c, -a)
            if high == () or not at_least(bound, high):
                high = bound
    if high != () and at_least(low[0], high):
        return None
    return low, high


def volts_left(asked, load):
    """The bounds of what is read beside this load on the sources that fit."""
    return bounds(without_second(demands(asked, load)))


def ohms_left(asked):
    """The bounds of the ohms of the sources that fit."""
    return bounds(without_second([(b, a, c, is_above) for a, b, c, is_above in demands(asked, ZERO)]))


def source_within(asked, left):
    """A Source that fits these conditions, which leave these ohms."""
    low, high = left
    ohms = ratio_between(low[0], None if high == () else high)
    volts = ZERO
    for u, m, word in asked:
        bound = volts_on((u, m), ohms)
        if word == "least" and at_least(bound, volts):
            volts = bound
    return Source(volts, ohms)


def margins(rows):
    """What each two conditions, one that asks for least and one for below, ask
    of the ohms: (b, c, index, other index): b * ohms + c is above 0."""
    found = []
    for at, one in enumerate(rows):
        for by, other in enumerate(rows):
            if other[2] and not one[2]:
                found.append((other[1] - one[1], other[0] - one[0], at, by))
    return found


def is_tighter(margin, other):
    """Whether this margin asks for more than the other one, on the same side."""
    return other is None or margin[1] * abs(other[0]) < other[1] * abs(margin[0])


def contradiction(asked):
    """The weights by which conditions that no source fits contradict each other."""
    rows = in_units(asked)[1]
    top = None
    floor = None
    for margin in margins(rows):
        b, c, at, by = margin
        if b <= 0 and c <= 0:
            return weighted([(at, 1), (by, 1)])
        if b < 0 and is_tighter(margin, top):
            top = margin
        if b > 0 and is_tighter(margin, floor):
            floor = margin
    # So times each other's number at the ohms, they take away from each other.
    return weighted([(top[2], floor[0]), (top[3], floor[0]), (floor[2], -top[0]), (floor[3], -top[0])])


def weighted(found):
    """The ascending tuple of pairs (index, weight), of pairs with integers."""
    total = {}
    for at, weight in found:
        total[at] = total.get(at, 0) + weight
    return tuple([(at, (total[at], 1)) for at in ascending([at for at in total])])


def are_weights(value, many):
    """Whether this is an ascending tuple of pairs (index, weight), of so many
    conditions, none of them twice."""
    if not isinstance(value, tuple):
        return False
    ahead = -1
    for pair in value:
        if not isinstance(pair, tuple) or len(pair) != 2:
            return False
        at, weight = pair
        if not is_integer(at) or not ahead < at < many or not is_ratio(weight) or weight == ZERO:
            return False
        ahead = at
    return True


def is_contradiction(asked, value):
    """Whether this shows, as never tells, that these conditions cannot hold at once."""
    if not are_weights(value, len(asked)):
        return False
    rows = demands(asked, ZERO)[2:]
    unit = 1
    for _, weight in value:
        unit = lcm(unit, weight[1])
    total = [0, 0, 0]
    is_above = False
    for at, weight in value:
        many = weight[0] * (unit // weight[1])
        total = [number + many * part for number, part in zip(total, rows[at])]
        is_above = is_above or rows[at][3]
    return total[0] <= 0 and total[1] <= 0 and (total[2] < 0 or (total[2] == 0 and is_above))


def does_fit(asked, source):
    """Whether all these conditions hold on the source."""
    return all([reaches(source, (u, m)) == (word == "least") for u, m, word in asked])


def conditions(bench, log):
    """The conditions (u, m, word) that the log sets on the source."""
    need_log(bench, log)
    return conditions_of(bench, log)


def fits(bench, log):
    """("fits", source), or ("never", rows) with weights if no source fits."""
    need_log(bench, log)
    asked = conditions_of(bench, log)
    left = ohms_left(asked)
    if left is None:
        return ("never", contradiction(asked))
    return ("fits", source_within(asked, left))


def shows_fits(bench, log, value):
    """Whether any value is such as fits tells."""
    need_log(bench, log)
    asked = conditions_of(bench, log)
    if is_told(value, "never", 2):
        return is_contradiction(asked, value[1])
    return is_told(value, "fits", 2) and isinstance(value[1], Source) and does_fit(asked, value[1])


def extent(bench, log):
    """(least, most, low, high): the bounds of the volts, and of the ohms, of
    the sources that fit."""
    need_log(bench, log)
    asked = conditions_of(bench, log)
    volts = volts_left(asked, ZERO)
    if volts is None:
        raise NoFit(log)
    ohms = ohms_left(asked)
    return (*volts, *ohms)


def between(bench, log, setting):
    """(least, most): the bounds of what the meters read in this setting on the
    sources that fit."""
    need_log(bench, log)
    asked = conditions_of(bench, log)
    if volts_left(asked, ZERO) is None:
        raise NoFit(log)
    need_setting(bench, setting)
    return volts_left(asked, draw_of(bench, setting))

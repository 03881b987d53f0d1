"""Steps: what the meters read on a source, and where their steps lead."""

from rangehunt.basics import ZERO, at_least, plus, times
from rangehunt.errors import BadSetting, BadStep, BadSteps, NoLoad

WAYS = ("down", "up")


def need_setting(bench, setting):
    """Refuse what is no setting of the bench."""
    if setting not in bench.settings:
        raise BadSetting(setting)


def ranges_of(bench, setting):
    """The ranges of the meters in this setting, as the bench tells them."""
    found = []
    for meter, name in zip(bench.meters, setting[0]):
        found.extend([row for row in bench[meter] if row[0] == name])
    return found


def draw_of(bench, setting):
    """What is drawn in this setting of the bench."""
    total = ZERO
    for row in ranges_of(bench, setting):
        total = plus(total, row[1])
    for load in setting[1]:
        total = plus(total, bench.load(load))
    return total


def setting_behind(bench, setting, step):
    """The setting behind this step, None if its meter has no range there."""
    meter, way = step
    ranges, on = setting
    place = bench.meters.index(meter)
    names = [row[0] for row in bench[meter]]
    at = names.index(ranges[place]) + (1 if way == "up" else -1)
    if at < 0 or at == len(names):
        return None
    return ((*ranges[:place], names[at], *ranges[place + 1:]), on)


def moves_at(bench, setting):
    """The steps that any source makes possible here, in the sequence of the
    meters, as (step, setting behind it, line, is_up).

    A step up is possible on just the sources that reach its line, a step down
    on just those that do not.
    """
    load = draw_of(bench, setting)
    found = []
    for meter, row in zip(bench.meters, ranges_of(bench, setting)):
        for way, threshold in zip(WAYS, row[3:]):
            # Nothing reads less than 0: that lower threshold makes no step possible.
            if threshold is not None and threshold != ZERO:
                step = (meter, way)
                line = (threshold, times(threshold, load))
                found.append((step, setting_behind(bench, setting, step), line, way == "up"))
    return found


def moves_of(bench):
    """The moves at each setting, by the settings, in ascending sequence."""
    return {setting: moves_at(bench, setting) for setting in bench.settings}


def reaches(source, line):
    """Whether the volts of the source are at least u + m * ohms, with the line (u, m)."""
    u, m = line
    ohms = source.ohms
    # This is asked so often that the sum is not brought to least terms first.
    above = u[0] * m[1] * ohms[1] + m[0] * ohms[0] * u[1]
    return at_least(source.volts, (above, u[1] * m[1] * ohms[1]))


def possible(bench, setting, source):
    """The settings behind the steps that are possible, by these steps."""
    found = {}
    for step, behind, line, is_up in moves_at(bench, setting):
        if reaches(source, line) == is_up:
            found[step] = behind
    return found


def draw(bench, setting):
    """The sum of the loads of the ranges and of the loads that are on."""
    need_setting(bench, setting)
    return draw_of(bench, setting)


def reads(bench, setting, source):
    """What each meter reads on the source."""
    need_setting(bench, setting)
    return source.at(draw_of(bench, setting))


def shown(bench, setting, source):
    """The figures of all meters: what is read in whole units of their ranges."""
    read = reads(bench, setting, source)
    units = [row[2] for row in ranges_of(bench, setting)]
    return tuple([read[0] * unit[1] // (read[1] * unit[0]) for unit in units])


def steps(bench, setting, source):
    """The steps that are possible, in the sequence of the meters."""
    need_setting(bench, setting)
    return tuple(possible(bench, setting, source))


def after(bench, setting, step):
    """The setting behind a step, whether it is possible or not."""
    need_setting(bench, setting)
    if not isinstance(step, tuple) or len(step) != 2 or step[0] not in bench or step[1] not in WAYS:
        raise BadStep(step)
    found = setting_behind(bench, setting, step)
    if found is None:
        raise BadStep(step)
    return found


def turned(bench, setting, load):
    """The setting with this load off if it was on, and on if it was off."""
    need_setting(bench, setting)
    if load not in bench.loads:
        raise NoLoad(load)
    ranges, on = setting
    return (ranges, tuple([name for name in bench.loads if (name in on) != (name == load)]))


def walked(bench, setting, source, row):
    """The setting behind the steps of row, each of which is possible then."""
    need_setting(bench, setting)
    if not isinstance(row, tuple):
        raise BadSteps(-1)
    here = setting
    for at, step in enumerate(row):
        found = possible(bench, here, source)
        if step not in list(found):
            raise BadSteps(at)
        here = found[step]
    return here

"""Classes of sources: which lines of a bench a source reaches."""

from math import lcm

from rangehunt.basics import ZERO, ascending, at_least, plus, ratio, ratio_between, times
from rangehunt.errors import TooMany
from rangehunt.sources import Source
from rangehunt.stepping import moves_of, reaches

MOST_CLASSES = 400


def lines_of(moves):
    """The lines of these moves of a bench, ascending by their numbers."""
    found = {}
    unit = 1
    for setting in moves:
        for _, _, line, _ in moves[setting]:
            found[line] = True
            unit = lcm(unit, line[0][1], line[1][1])
    # In whole units of all their parts, ratios stand in sequence as integers do.
    rows = ascending([(u[0] * (unit // u[1]), m[0] * (unit // m[1])) for u, m in found])
    return tuple([(ratio(u, unit), ratio(m, unit)) for u, m in rows])


def reached_of(rows, source):
    """Those of the lines that the source reaches."""
    return tuple([line for line in rows if reaches(source, line)])


def volts_on(line, ohms):
    """The volts of the source of these ohms that is just on the line."""
    return plus(line[0], times(line[1], ohms))


def meeting(low, high):
    """The ohms at which these lines meet, None if they never do.

    They are neighbours at some ohms above 0, low below high; what they were
    ahead of these ohms is of no interest.
    """
    fall = low[1][0] * high[1][1] - high[1][0] * low[1][1]
    if fall <= 0:
        return None
    gap = high[0][0] * low[0][1] - low[0][0] * high[0][1]
    return ratio(gap * low[1][1] * high[1][1], fall * low[0][1] * high[0][1])


def next_meeting(order):
    """The least ohms at which lines of this order meet, None if none do."""
    least = None
    for k in range(len(order) - 1):
        found = meeting(order[k], order[k + 1])
        if found is not None and (least is None or not at_least(found, least)):
            least = found
    return least


def crossed(order, ohms):
    """(order, gaps): the order of the lines behind the ohms at which some meet,
    and the numbers of lines below the sources that reach others than ahead."""
    volts = [volts_on(line, ohms) for line in order]
    rows = []
    gaps = []
    at = 0
    while at < len(order):
        end = at + 1
        while end < len(order) and volts[end] == volts[at]:
            gaps.append(end)
            end += 1
        rows.extend(order[at:end][::-1])
        at = end
    return rows, gaps


def source_in(order, many, ohms):
    """A Source of these ohms above the first so many lines, and below the others."""
    low = volts_on(order[many - 1], ohms) if many else ZERO
    high = volts_on(order[many], ohms) if many < len(order) else None
    return Source(ratio_between(low, high), ohms)


def samples_of(rows):
    """A tuple of Sources, one of each class of these lines.

    From 0 ohms on the lines are gone along. All classes between them that are
    met at the start are taken; and wherever lines meet, those that begin there.
    """
    order = list(rows)
    gaps = list(range(len(order) + 1))
    start = ZERO
    found = []
    while gaps:
        if len(found) + len(gaps) > MOST_CLASSES:
            raise TooMany(MOST_CLASSES)
        end = next_meeting(order)
        ohms = ratio_between(start, end)
        found.extend([source_in(order, many, ohms) for many in gaps])
        gaps = []
        if end is not None:
            order, gaps = crossed(order, end)
            start = end
    return tuple(found)


def are_samples(rows, many, value):
    """Whether these are so many Sources, no two of one class of these lines."""
    if len(value) != many or not all([isinstance(source, Source) for source in value]):
        return False
    return len({reached_of(rows, source) for source in value}) == many


def lines(bench):
    """The lines of the bench, ascending by the first number, then the second."""
    return lines_of(moves_of(bench))


def line_up(bench, source):
    """The lines of the bench that the source reaches, in the same sequence."""
    return reached_of(lines(bench), source)


def classes(bench):
    """How many classes of sources the bench has."""
    return len(samples(bench))


def samples(bench):
    """A tuple of Sources, one of each class."""
    return samples_of(lines(bench))


def shows_samples(bench, value):
    """Whether any value is such as samples tells."""
    rows = lines(bench)
    many = len(samples_of(rows))
    return isinstance(value, tuple) and are_samples(rows, many, value)

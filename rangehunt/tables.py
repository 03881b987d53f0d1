"""Tables: a bench in use on a source, with what can be undone, and trials.

The moments of a table are the one in which it began, and one behind each deed
that stands: (words of the deed, source, log), the last sight of the log being
that of now.
"""

from rangehunt.basics import text_of
from rangehunt.errors import BadSource, Hunting, NoMeter, NothingToRedo, NothingToUndo, NoTrial, NotNow
from rangehunt.logs import MOST_SIGHTS, extent
from rangehunt.sources import Source
from rangehunt.stepping import after, possible, shown, turned


def sight_of(bench, setting, source):
    """What is seen of the bench in this setting on the source."""
    return (setting, shown(bench, setting, source))


def moment_on(bench, setting, source):
    """The moment in which a table is put on the source in this setting."""
    words = ("source", text_of(source.volts), text_of(source.ohms))
    return (words, source, (sight_of(bench, setting, source),))


def deeds_of(table):
    """The words of the source on which the table began, and of all deeds that stand."""
    return [moment[0] for moment in table._moments]


def settled(bench, setting, source):
    """(steps, settings behind them) by which the meters come to rest, each step
    being the first one that is possible; Hunting if they never do."""
    row = []
    passed = [setting]
    ways = possible(bench, setting, source)
    while ways:
        step = list(ways)[0]
        row.append(step)
        if ways[step] in passed:
            raise Hunting(tuple(row))
        passed.append(ways[step])
        ways = possible(bench, ways[step], source)
    return tuple(row), passed[1:]


class Trial:
    """A block, behind which the table is as ahead of it unless it was kept.

    Of what is kept __exit__ asks no more than whether it is None.
    """

    def __init__(self, table):
        self._table = table
        self._moments = []
        self._undone = []
        self._outer = None
        self._kept = None

    def __enter__(self):
        table = self._table
        self._moments = list(table._moments)
        self._undone = list(table._undone)
        self._outer = table._block
        table._block = self
        return table

    def __exit__(self, kind, value, trace):
        table = self._table
        table._block = self._outer
        if kind is not None or self._kept is None:
            table._moments = self._moments
            table._undone = self._undone


class Table:
    """A bench on a source, at first in its first setting."""

    def __init__(self, bench, source):
        self._bench = bench
        self._moments = [moment_on(bench, bench.first, source)]
        self._undone = []
        self._block = None

    @property
    def bench(self):
        """The bench, which stays the same."""
        return self._bench

    @property
    def source(self):
        """The source on which the table is now."""
        return self._moments[-1][1]

    @property
    def setting(self):
        """The setting in which the table is now."""
        return self._moments[-1][2][-1][0]

    @property
    def figures(self):
        """The figures that all meters show now."""
        return self._moments[-1][2][-1][1]

    @property
    def done(self):
        """How many deeds stand."""
        return len(self._moments) - 1

    @property
    def log(self):
        """The last sights on this source, the latest one last."""
        return self._moments[-1][2]

    def _add(self, moment):
        """Add the moment behind a deed."""
        self._moments.append(moment)
        self._undone = []

    def _pass(self, words, settings):
        """Add the moment behind a deed that leads through these settings."""
        sights = [sight_of(self._bench, setting, self.source) for setting in settings]
        log = self.log + tuple(sights)
        self._add((words, self.source, log[-MOST_SIGHTS:]))

    def step(self, meter, way):
        """Let the meter step, if it can now."""
        if meter not in self._bench:
            raise NoMeter(meter)
        step = (meter, way)
        behind = after(self._bench, self.setting, step)
        if step not in list(possible(self._bench, self.setting, self.source)):
            raise NotNow(step)
        self._pass(("step", meter, way), [behind])

    def hand(self, load):
        """Turn this load."""
        self._pass(("hand", load), [turned(self._bench, self.setting, load)])

    def settle(self):
        """Let the meters come to rest; returns the steps."""
        row, settings = settled(self._bench, self.setting, self.source)
        self._pass(("settle",), settings)
        return row

    def stand(self, source):
        """Put the table on another source."""
        if not isinstance(source, Source):
            raise BadSource(source)
        self._add(moment_on(self._bench, self.setting, source))

    def known(self):
        """What the log tells of the source: (least, most, low, high)."""
        return extent(self._bench, self.log)

    def undo(self):
        """Take the last deed back that stands."""
        if len(self._moments) == 1:
            raise NothingToUndo(None)
        self._undone.append(self._moments.pop())

    def redo(self):
        """Do the deed again that was taken back last."""
        if len(self._undone) == 0:
            raise NothingToRedo(None)
        self._moments.append(self._undone.pop())

    def trial(self):
        """A block for `with`, behind which the table is as ahead of it."""
        return Trial(self)

    def keep(self):
        """Let what was done in the innermost block stand."""
        if self._block is None:
            raise NoTrial(None)
        block = self._block
        block._kept = True

    def tried(self, look, *, keep=False):
        """What look returns of the table, within a block."""
        with self.trial() as held:
            found = look(held)
            if keep is True:
                held.keep()
        return found

    def copy(self):
        """An independent table that is alike in all things."""
        other = Table(self._bench, self.source)
        other._moments = list(self._moments)
        other._undone = list(self._undone)
        return other

    def __eq__(self, other):
        return (
            isinstance(other, Table) and self.bench == other.bench
            and self.source == other.source and self.setting == other.setting
        )

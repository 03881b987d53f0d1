"""An own account of section 14, by worlds: a table as the row of its deeds,
from which all that it tells is found again from the beginning."""

from tests.own_logs import own_is_log
from tests.tools import fraction
from tests.world import range_at, world_of


class Wrong(Exception):
    """A deed that is refused: the name of the error and its value."""


class OwnTable:
    """Deeds are ("step", meter, way), ("hand", load), ("settle",) and ("source", source)."""

    def __init__(self, bench, source):
        self.bench, self.began = bench, source
        self.deeds, self.undone = [], []
        self.blocks = []

    def after(self, deeds):
        """(source, setting, sights, steps of the last deed) behind these deeds."""
        source, setting, row = self.began, (tuple(self.bench[meter][0][0] for meter in self.bench.meters), ()), ()
        sights = [self.sight(source, setting)]
        for deed in deeds:
            world, row = world_of(self.bench, source), ()
            if deed[0] == "source":
                source = deed[1]
                sights = [self.sight(source, setting)]
            elif deed[0] == "settle":
                row = []
                while world.steps(setting):
                    row.append(next(iter(world.steps(setting))))
                    setting = world.after(setting, row[-1])
                    sights.append(self.sight(source, setting))
            else:
                setting = world.after(setting, deed[1:]) if deed[0] == "step" else world.turned(setting, deed[1])
                sights.append(self.sight(source, setting))
        return source, setting, tuple(sights[-12:]), tuple(row)

    def sight(self, source, setting):
        read = world_of(self.bench, source).reads(setting)
        return setting, tuple(int(read / fraction(range_at(self.bench, setting, meter)[1][2])) for meter in self.bench.meters)

    def told(self):
        """What the table tells: (source, setting, figures, done, log)."""
        source, setting, sights, _ = self.after(self.deeds)
        assert own_is_log(self.bench, sights)
        return source, setting, sights[-1][1], len(self.deeds), sights

    def check(self, deed):
        """Refuse a deed that cannot be done now, as the table is told to."""
        source, setting, _, _ = self.after(self.deeds)
        world = world_of(self.bench, source)
        if deed[0] == "step":
            meter, step = deed[1], deed[1:]
            if not any(type(meter) is str and meter == name for name in self.bench.meters):
                raise Wrong("NoMeter", meter)
            if step[1] not in ("up", "down") or type(step[1]) is not str or world.after(setting, step) is None:
                raise Wrong("BadStep", step)
            if step not in world.steps(setting):
                raise Wrong("NotNow", step)
        if deed[0] == "hand" and deed[1] not in self.bench.loads:
            raise Wrong("NoLoad", deed[1])
        if deed[0] == "settle":
            row, seen = (), [setting]
            while world.steps(setting):
                step = next(iter(world.steps(setting)))
                setting, row = world.after(setting, step), row + (step,)
                if setting in seen:
                    raise Wrong("Hunting", row)
                seen.append(setting)

    def do(self, deed):
        """What the deed returns; it is added to those that stand."""
        self.check(deed)
        self.deeds, self.undone = self.deeds + [deed], []
        return self.after(self.deeds)[3] if deed[0] == "settle" else None

    def undo(self):
        if not self.deeds:
            raise Wrong("NothingToUndo", None)
        self.undone, self.deeds = self.undone + self.deeds[-1:], self.deeds[:-1]

    def redo(self):
        if not self.undone:
            raise Wrong("NothingToRedo", None)
        self.deeds, self.undone = self.deeds + self.undone[-1:], self.undone[:-1]

    def enter(self):
        self.blocks.append([self.deeds, self.undone, False])

    def leave(self, is_error):
        deeds, undone, is_kept = self.blocks.pop()
        if is_error or not is_kept:
            self.deeds, self.undone = deeds, undone

    def keep(self):
        if not self.blocks:
            raise Wrong("NoTrial", None)
        self.blocks[-1][2] = True

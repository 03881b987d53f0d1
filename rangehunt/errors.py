"""All errors of the package, each directly below MeterError."""


class MeterError(ValueError):
    """What is wrong, with its only argument as value."""

    def __init__(self, value):
        self.value = value


class BadRatio(MeterError):
    """A value that is no ratio."""


class Short(MeterError):
    """A source of 0 ohms beside another one."""


class BadMany(MeterError):
    """A value that is no integer from 0 on, times a source."""


class BadBench(MeterError):
    """The number of a line of no bench, 0 for what is no string."""


class NoMeter(MeterError):
    """A value that names no meter of the bench."""


class NoLoad(MeterError):
    """A value that names no load of the bench."""


class LastMeter(MeterError):
    """The only meter of a bench, which cannot be left out."""


class BadSpread(MeterError):
    """A value that is no integer from 0 to 20."""


class BadSetting(MeterError):
    """A value that is no setting of the bench."""


class BadStep(MeterError):
    """A value that is no step, or one to a range that is not there."""


class BadSteps(MeterError):
    """The index of a step that is not possible, -1 for what is no tuple."""


class TooMany(MeterError):
    """How many classes of sources there are at most."""


class BadLog(MeterError):
    """A value that is no log of the bench."""


class NoFit(MeterError):
    """A log that no source fits."""


class Unlike(MeterError):
    """A value that is no bench like the other one."""


class BadOffers(MeterError):
    """A value that is no tuple of offers."""


class BadHopes(MeterError):
    """A value that is no tuple of hopes."""


class NotNow(MeterError):
    """A step that is not possible now."""


class Hunting(MeterError):
    """The row of steps behind which a setting comes a second time."""


class BadSource(MeterError):
    """A value that is no Source."""


class NothingToUndo(MeterError):
    """No deed stands that could be taken back."""


class NothingToRedo(MeterError):
    """No deed was taken back that could be done again."""


class NoTrial(MeterError):
    """There is no block to be kept."""


class BadJournal(MeterError):
    """The number of a line of no journal, 0 for what is no string."""


class BadLine(MeterError):
    """A value that is no line for the desk."""

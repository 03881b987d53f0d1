"""Sources: a voltage behind an inner resistance."""

from rangehunt.basics import at_least, is_integer, is_ratio, over, plus, times
from rangehunt.errors import BadMany, BadRatio, Short

ONE = (1, 1)


def weakening(ohms, load):
    """What volts and ohms are divided by beside this load: 1 + ohms * load."""
    if not is_ratio(load):
        raise BadRatio(load)
    return plus(ONE, times(ohms, load))


def repeated(source, many):
    """A Source of many times the volts and of the same ohms."""
    if not is_integer(many) or many < 0:
        raise BadMany(many)
    return Source(times(source.volts, (many, 1)), source.ohms)


def covers(one, other):
    """Whether one reads at least what other reads, beside each load.

    v / (1 + r G) is at least w / (1 + s G) if v - w + (v s - w r) G is at
    least 0: for all G from 0 on just if neither number is below 0.
    """
    if not at_least(one.volts, other.volts):
        return False
    return at_least(times(one.volts, other.ohms), times(other.volts, one.ohms))


class Source:
    """A source of these volts behind these ohms, both ratios."""

    def __init__(self, volts, ohms):
        if not is_ratio(volts):
            raise BadRatio(volts)
        if not is_ratio(ohms):
            raise BadRatio(ohms)
        self._volts = volts
        self._ohms = ohms

    @property
    def volts(self):
        """The volts, a ratio."""
        return self._volts

    @property
    def ohms(self):
        """The ohms, a ratio."""
        return self._ohms

    def at(self, load):
        """What a meter reads beside loads of this ratio in all."""
        return over(self._volts, weakening(self._ohms, load))

    def under(self, load):
        """The Source that reads alone what this one reads beside the load."""
        by = weakening(self._ohms, load)
        return Source(over(self._volts, by), over(self._ohms, by))

    def __add__(self, other):
        if not isinstance(other, Source):
            return NotImplemented
        return Source(plus(self._volts, other.volts), plus(self._ohms, other.ohms))

    def __and__(self, other):
        if not isinstance(other, Source):
            return NotImplemented
        total = plus(self._ohms, other.ohms)
        if total[0] == 0:
            raise Short(other)
        volts = plus(times(self._volts, other.ohms), times(other.volts, self._ohms))
        return Source(over(volts, total), over(times(self._ohms, other.ohms), total))

    def __mul__(self, other):
        return repeated(self, other)

    def __rmul__(self, other):
        return repeated(self, other)

    def __ge__(self, other):
        if not isinstance(other, Source):
            return NotImplemented
        return covers(self, other)

    def __le__(self, other):
        if not isinstance(other, Source):
            return NotImplemented
        return covers(other, self)

    def __eq__(self, other):
        return isinstance(other, Source) and self.volts == other.volts and self.ohms == other.ohms

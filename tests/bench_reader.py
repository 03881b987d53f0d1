"""The form of benches once more, written otherwise than in the package: by
regular expressions, and by the sorts of lines that may follow on each other."""

import re
from fractions import Fraction

NAME = "([a-z]{1,8})"
WORD = "([0-9/]+)"
SPREAD = re.compile("spread ([1-9]|1[0-9]|20)")
METER = re.compile(f"meter {NAME}")
RANGE = re.compile(f"  range {NAME} load {WORD} unit {WORD}(?: down {WORD})?(?: up {WORD})?")
LOAD = re.compile(f"load {NAME} {WORD}")


def number(word):
    """The Fraction of a word, None if it is no text of a ratio up to 9999."""
    if not re.fullmatch("[0-9]{1,4}(/[0-9]{1,4})?", word) or re.search("/0*$", word):
        return None
    found = Fraction(word)
    return found if str(found) == word else None


class Reader:
    """Takes line by line; tells if it cannot stand there."""

    def __init__(self):
        self.meters = []
        self.ranges = []
        self.loads = []
        self.ahead = None
        self.may_end = False
        self.may_follow = ("spread", "meter")

    def takes(self, line):
        forms = {"spread": SPREAD, "meter": METER, "range": RANGE, "load": LOAD}
        for sort in self.may_follow:
            found = forms[sort].fullmatch(line)
            if found:
                return getattr(self, sort)(*found.groups())
        return False

    def spread(self, _):
        self.may_follow = ("meter",)
        return True

    def meter(self, name):
        is_right = name not in self.meters and len(self.meters) < 3
        self.meters.append(name)
        self.ranges = []
        self.may_end = False
        self.may_follow = ("range",)
        return is_right

    def range(self, name, load, unit, down, up):
        numbers = [number(word) for word in (load, unit, down, up) if word is not None]
        if None in numbers or name in self.ranges or numbers[1] == 0 or (down is None) != (not self.ranges):
            return False
        if down is not None and number(down) > self.ahead:
            return False
        self.ranges.append(name)
        if up is None:
            self.may_end = True
            self.may_follow = ("meter", "load")
            return True
        is_right = number(up) > (self.ahead if down is not None else 0) and len(self.ranges) < 4
        self.ahead = number(up)
        return is_right

    def load(self, name, load):
        is_right = name not in self.loads and len(self.loads) < 2 and number(load) is not None
        self.loads.append(name)
        self.may_follow = ("load",)
        return is_right


def wrong_line(text):
    """What BadBench tells of this text, None if it is that of a bench."""
    lines = text.split("\n")
    reader = Reader()
    for k, line in enumerate(lines):
        if not reader.takes(line):
            return k + 1
    return None if reader.may_end else len(lines) + 1

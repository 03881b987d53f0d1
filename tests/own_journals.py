"""An own account of section 15: which line of a journal is wrong, told by
regular expressions, and by the own account of tables."""

import re
from math import gcd

from rangehunt.benches import Bench
from rangehunt.sources import Source
from tests.bench_reader import wrong_line
from tests.own_tables import OwnTable, Wrong

SOURCE = re.compile("source ([0-9/]+) ([0-9/]+)")
STEP = re.compile("step ([^ \n]+) ([^ \n]+)")
HAND = re.compile("hand ([^ \n]+)")


def ratio_in(word):
    """The ratio of which this is the text, None if there is none."""
    found = re.fullmatch("(0|[1-9][0-9]*)(?:/([1-9][0-9]*))?", word)
    if not found or found[2] == "1":
        return None
    pair = (int(found[1]), int(found[2] or 1))
    return pair if gcd(*pair) == 1 else None


def source_in(line):
    """The Source of a line `source V R`, None for others."""
    found = SOURCE.fullmatch(line)
    ratios = [ratio_in(word) for word in found.groups()] if found else [None]
    return None if None in ratios else Source(*ratios)


def deed_in(line):
    """The deed of a line as OwnTable has it, None for what is none."""
    if line == "settle":
        return ("settle",)
    if source_in(line):
        return ("source", source_in(line))
    for word, form in (("step", STEP), ("hand", HAND)):
        found = form.fullmatch(line)
        if found:
            return (word, *found.groups())
    return None


def read_own(text):
    """(number of the first wrong line, None), or (None, OwnTable)."""
    lines = text.split("\n")
    ends = [k for k, line in enumerate(lines) if source_in(line)]
    if not ends:
        return len(lines) + 1, None
    wrong = wrong_line("\n".join(lines[:ends[0]])) if ends[0] else 1
    if wrong:
        return wrong, None
    own = OwnTable(Bench("\n".join(lines[:ends[0]])), source_in(lines[ends[0]]))
    for number, line in enumerate(lines[ends[0] + 1:], ends[0] + 2):
        try:
            own.do(deed_in(line) or ("step", None, None))
        except Wrong:
            return number, None
    return None, own

"""Journals: the text of a table, by which its deeds can be done again."""

from rangehunt.basics import ratio_of
from rangehunt.benches import Bench
from rangehunt.errors import BadBench, BadJournal, BadStep, Hunting, NoLoad, NoMeter, NotNow
from rangehunt.sources import Source
from rangehunt.tables import Table, deeds_of

DEEDS = (("step", 3), ("hand", 2), ("settle", 1))


def source_of(words):
    """The Source of the words of a line `source V R`, None for others."""
    if len(words) != 3 or words[0] != "source":
        return None
    volts, ohms = [ratio_of(word) for word in words[1:]]
    if volts is None or ohms is None:
        return None
    return Source(volts, ohms)


def deed_of(line):
    """The words of a line of a deed, () for other lines."""
    words = line.split(" ")
    if "" in words:
        return ()
    if (words[0], len(words)) in DEEDS or source_of(words) is not None:
        return tuple(words)
    return ()


def do_deed(table, words):
    """Do the deed of these words on the table; returns what its method returns."""
    if words[0] == "step":
        return table.step(words[1], words[2])
    if words[0] == "hand":
        return table.hand(words[1])
    if words[0] == "settle":
        return table.settle()
    return table.stand(source_of(words))


def begun_on(lines, source):
    """A table on the source, with the bench of these lines."""
    try:
        bench = Bench("\n".join(lines))
    except BadBench as wrong:
        raise BadJournal(wrong.value)
    return Table(bench, source)


def do_line(table, line, number):
    """Do the deed of this line of a journal on the table."""
    words = deed_of(line)
    if words == ():
        raise BadJournal(number)
    try:
        do_deed(table, words)
    except (NoMeter, BadStep, NotNow, NoLoad, Hunting):
        raise BadJournal(number)


def journal(table):
    """The text of the bench, of the source on which the table began, and of
    each deed that stands."""
    lines = [" ".join(words) for words in deeds_of(table)]
    return "\n".join([table.bench.text, *lines])


def read_journal(text):
    """A table on which the deeds of the journal were done."""
    if not isinstance(text, str):
        raise BadJournal(0)
    lines = text.split("\n")
    at = 0
    while at < len(lines) and source_of(lines[at].split(" ")) is None:
        at += 1
    if at == len(lines):
        raise BadJournal(at + 1)
    table = begun_on(lines[:at], source_of(lines[at].split(" ")))
    for number in range(at + 1, len(lines)):
        do_line(table, lines[number], number + 1)
    return table

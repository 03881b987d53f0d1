"""A desk: a table by lines that are said, and answered."""

from rangehunt.always import calm
from rangehunt.basics import text_of
from rangehunt.errors import BadLine
from rangehunt.journals import deed_of, do_deed, read_journal
from rangehunt.stepping import steps


def told_ranges(table):
    """The ranges, then the loads that are on."""
    ranges, on = table.setting
    return " ".join([*ranges, *on])


def told_figures(table):
    """The figures of all meters."""
    return " ".join([str(figure) for figure in table.figures])


def told_steps(table):
    """All steps that are possible."""
    found = [" ".join(step) for step in steps(table.bench, table.setting, table.source)]
    return ", ".join(found) if found else "-"


def told_calm(table):
    """Whether the meters come to rest from here, whatever the source."""
    return calm(table.bench, table.setting)[0]


def told_bounds(least, most):
    """The least ratio, whether it is taken or not, and the most one."""
    end = "-" if most == () else text_of(most)
    return f"{text_of(least[0])} {end}"


def told_volts(table):
    """Between which bounds the volts are, as the log tells."""
    known = table.known()
    return told_bounds(known[0], known[1])


def told_ohms(table):
    """Between which bounds the ohms are, as the log tells."""
    known = table.known()
    return told_bounds(known[2], known[3])


def undone(table):
    """Take the last deed back."""
    table.undo()
    return "ok"


def redone(table):
    """Do the last deed again that was taken back."""
    table.redo()
    return "ok"


ANSWERS = {
    "undo": undone, "redo": redone, "ranges": told_ranges, "shown": told_figures, "steps": told_steps,
    "calm": told_calm, "volts": told_volts, "ohms": told_ohms,
}


class Desk:
    """The table of a journal, to which lines are said."""

    def __init__(self, text):
        self.table = read_journal(text)

    def say(self, line):
        """The answer to a line, as a string."""
        if not isinstance(line, str) or "\n" in line:
            raise BadLine(line)
        if line in ANSWERS:
            answer = ANSWERS[line]
            return answer(self.table)
        words = deed_of(line)
        if words == ():
            raise BadLine(line)
        found = do_deed(self.table, words)
        return str(len(found)) if words[0] == "settle" else "ok"

"""Section 15: journals, written and read back."""

import random
import unittest

from rangehunt.benches import Bench
from rangehunt.classes import samples
from rangehunt.errors import BadJournal, BadSource, Hunting, MeterError, NothingToRedo, NothingToUndo
from rangehunt.journals import journal, read_journal
from rangehunt.sources import Source
from rangehunt.stepping import steps
from rangehunt.tables import Table
from tests.drawn import drawn_benches, source_of
from tests.own_journals import read_own
from tests.tools import FULL, LIT, PAIR, Case, any_values
from tests.world import own_points

WEAK = Source((90, 1), (10, 1))
FIRM = Source((10, 1), (0, 1))
NONE = Source((0, 1), (0, 1))
LAMP = PAIR[:PAIR.index("\nmeter side")] + "\nload lamp 3"
# The lines 1 to 4 are the bench, the line 5 is that of the source.
BEGUN = LAMP + "\nsource 10 0"


def drawn_table(rng, bench, many):
    """A table with so many things done on it, some of them taken back."""
    points = list(own_points(bench).values())
    table = Table(bench, source_of(rng.choice(rng.choice(points))))
    for _ in range(many):
        found = steps(bench, table.setting, table.source)
        word = rng.randrange(8)
        try:
            if word < 3 and found:
                table.step(*rng.choice(found))
            elif word < 5 and bench.loads:
                table.hand(rng.choice(bench.loads))
            elif word == 5:
                table.settle()
            elif word == 6:
                table.stand(source_of(rng.choice(rng.choice(points))))
            else:
                rng.choice((table.undo, table.redo))()
        except MeterError as error:
            assert isinstance(error, (Hunting, NothingToUndo, NothingToRedo))
    return table


def all_told(table):
    return table.bench.text, table.source, table.setting, table.figures, table.done, table.log


class JournalCase(Case):

    def assert_wrong(self, number, text):
        self.assertEqual(read_own(text), (number, None))
        self.assert_number(BadJournal, number, read_journal, text)

    def assert_read(self, text):
        """The journal is read back, and told again as it was."""
        table = read_journal(text)
        self.assertIs(type(table), Table)
        self.assert_same(journal(table), text)
        own = read_own(text)[1]
        source, setting, figures, done, log = own.told()
        self.assertEqual(all_told(table), (own.bench.text, source, setting, figures, done, log))
        return table


class Written(JournalCase):

    def test_the_example(self):
        table = Table(Bench(PAIR), WEAK)
        self.assert_same(journal(table), PAIR + "\nsource 90 10")
        self.assert_same(journal(table=table), journal(table))

    def test_deed_by_deed(self):
        table = Table(Bench(LAMP), FIRM)
        lines = [BEGUN]
        for deed, line in (
            (lambda: table.step("wide", "up"), "step wide up"), (lambda: table.hand("lamp"), "hand lamp"), (table.settle, "settle"),
            (lambda: table.stand(Source((1, 3), (22, 7))), "source 1/3 22/7"), (table.settle, "settle"), (lambda: table.hand("lamp"), "hand lamp"),
            (lambda: table.stand(FIRM), "source 10 0"), (lambda: table.stand(FIRM), "source 10 0"), (table.settle, "settle"),
            (lambda: table.stand(NONE), "source 0 0"), (lambda: table.step("wide", "down"), "step wide down"),
        ):
            deed()
            lines.append(line)
            self.assert_same(journal(table), "\n".join(lines))
            self.assert_read(journal(table))
        while table.done:
            table.undo()
            lines.pop()
            self.assert_same(journal(table), "\n".join(lines))

    def test_the_source_on_which_it_began(self):
        table = Table(Bench(LAMP), FIRM)
        table.stand(WEAK)
        self.assert_same(journal(table), BEGUN + "\nsource 90 10")
        table.undo()
        self.assert_same(journal(table), BEGUN)

    def test_what_was_undone_or_tried_leaves_nothing(self):
        table = Table(Bench(LAMP), FIRM)
        table.hand("lamp")
        table.hand("lamp")
        table.undo()
        self.assert_same(journal(table), BEGUN + "\nhand lamp")
        with table.trial():
            table.settle()
            self.assert_same(journal(table), BEGUN + "\nhand lamp\nsettle")
        table.tried(Table.undo)
        self.assert_same(journal(table), BEGUN + "\nhand lamp")
        other = table.copy()
        other.settle()
        self.assert_same([journal(table), journal(other)], [BEGUN + "\nhand lamp", BEGUN + "\nhand lamp\nsettle"])
        self.raised(BadSource, table.stand, None)
        self.assert_same(journal(table), BEGUN + "\nhand lamp")
        # What was taken back is not in it, and so cannot be done again.
        self.assert_refused(NothingToRedo, None, read_journal(journal(table)).redo)
        table.redo()
        self.assert_same(journal(table), BEGUN + "\nhand lamp\nhand lamp")

    def test_benches_of_all_sorts(self):
        for text in (FULL, LIT, "spread 20\n" + PAIR, "meter source\n  range source load 0 unit 1\nload source 1\nload settle 2"):
            self.assert_same(journal(Table(Bench(text), NONE)), text + "\nsource 0 0")
            self.assert_read(text + "\nsource 0 0\nsettle")

    def test_names_like_words_of_journals(self):
        text = "meter settle\n  range step load 0 unit 1 up 1\n  range hand load 0 unit 1 down 0\nload up 1\nload source 0"
        self.assert_read(text + "\nsource 3 1/2\nstep settle up\nhand source\nhand up\nsettle\nhand source")

    def test_read_back(self):
        rng = random.Random(1501)
        for bench in drawn_benches(1501, 30, hands=1) + drawn_benches(1502, 20) + [Bench(PAIR), Bench(LIT), Bench(FULL)]:
            table = drawn_table(rng, bench, 25)
            other = self.assert_read(journal(table))
            self.assertEqual(other, table)
            self.assertEqual(all_told(other), all_told(table))
            while table.done:
                table.undo()
                other.undo()
                self.assertEqual(all_told(other), all_told(table))
            self.assert_same(journal(other), journal(table))

    def test_great_sources(self):
        for great in (99999, 123456, 9999999, 100000000, 999999999):
            for volts in ((great, 1), (great, 7) if great % 7 else (great, 11), (1, great), (great, great - 1)):
                source = Source(volts, volts[::-1])
                table = Table(Bench(PAIR), source)
                table.stand(Source(volts, (0, 1)))
                table.stand(source)
                other = self.assert_read(journal(table))
                self.assertEqual(other.source, source)
        self.assert_read(PAIR + "\nsource 999999999/999999998 1/999999999\nsource 0 999999999")

    def test_sources_of_classes_and_made_of_them(self):
        bench = Bench(LIT)
        found = samples(bench)
        source = found[0]
        for k, other in enumerate(found[:40]):
            source = (source + other).under((1, k + 2))
        self.assertGreater(len(str(source.volts[1])), 40)
        table = Table(bench, source)
        for other in found:
            table.stand(other)
            table.settle() if not steps(bench, table.setting, other) else None
        self.assertGreater(len(journal(table)), 3000)
        self.assert_same(journal(read_journal(journal(table))), journal(table))
        self.assertEqual(all_told(read_journal(journal(table))), all_told(table))

    def test_by_name(self):
        self.assertEqual(read_journal(text=BEGUN), Table(Bench(LAMP), FIRM))
        self.assertEqual(read_journal(BEGUN), read_journal(BEGUN))
        self.assertFalse(read_journal(BEGUN) is read_journal(BEGUN))

    def test_all_deeds_can_be_undone(self):
        table = read_journal(BEGUN + "\nhand lamp\nsettle\nsource 0 0\nsettle")
        self.assert_same(table.done, 4)
        for _ in range(4):
            table.undo()
        self.assert_refused(NothingToUndo, None, table.undo)
        self.assertEqual(all_told(table), all_told(Table(Bench(LAMP), FIRM)))


class Wrong(JournalCase):

    def test_no_string(self):
        for value in any_values() + [Table(Bench(PAIR), WEAK), Bench(PAIR), PAIR.split("\n"), [BEGUN], (BEGUN,)]:
            if type(value) is not str:
                self.assert_number(BadJournal, 0, read_journal, value)
                self.assert_number(BadJournal, 0, read_journal, text=value)

    def test_no_line_source(self):
        self.assert_wrong(2, "")
        self.assert_wrong(3, "\n")
        self.assert_wrong(2, "x")
        self.assert_wrong(5, LAMP)
        self.assert_wrong(6, LAMP + "\n")
        self.assert_wrong(7, PAIR)
        # Whatever else is wrong.
        self.assert_wrong(6, "x\n" + LAMP)
        self.assert_wrong(8, LAMP + "\nhand lamp\nsettle\nstep wide up")
        self.assert_wrong(4, "meter a\nmeter a\nsettle")

    def test_lines_that_look_like_source(self):
        for line in (
            "source", "source ", "source 1", "source 1 ", "source 1 1 ", " source 1 1", "source  1 1", "source 1  1", "source 1 1 1", "Source 1 1", "sources 1 1",
            "source 2/2 1", "source 1 2/4", "source 1/1 0", "source 0/2 0", "source 0/1 0", "source 1/0 0", "source 01 0", "source 1 00", "source 1/02 0", "source 1/ 0",
            "source /2 0", "source -1 0", "source 1 -0", "source +1 0", "source 1.5 0", "source 1,5 0", "source 1/2/3 0", "source a b", "source 1 b", "source 1e3 0",
            "source 1_000 0", "source 1 1/", "source (1, 1) (0, 1)", "source 1 /", "source / 1", "source 4/2 0", "source 0 3/1",
        ):
            self.assert_wrong(6, LAMP + "\n" + line)
            # It stands in the bench, or behind it.
            self.assert_wrong(5, LAMP + "\n" + line + "\nsource 10 0")
            self.assert_wrong(6, BEGUN + "\n" + line)
            self.assert_wrong(1, line + "\n" + BEGUN)

    def test_the_line_source_first(self):
        self.assert_wrong(1, "source 1 1")
        self.assert_wrong(1, "source 1 1\n" + LAMP)
        self.assert_wrong(1, "source 1 1\n" + BEGUN)
        self.assert_wrong(1, "\nsource 1 1")

    def test_a_missing_line_of_the_bench(self):
        lines = LAMP.split("\n")
        for many, number in ((0, 1), (1, 2), (2, 3), (3, None), (4, None)):
            text = "\n".join(lines[:many] + ["source 10 0"])
            if number is None:
                self.assert_read(text)
            else:
                self.assert_wrong(number, text)
        # In the midst of the bench: a line of it behind the line source is no deed.
        for many, number in ((0, 1), (1, 2), (2, 3), (3, 5)):
            self.assert_wrong(number, "\n".join(lines[:many] + ["source 10 0"] + lines[many:]))

    def test_wrong_lines_of_the_bench(self):
        for text in (LAMP, PAIR, FULL):
            lines = text.split("\n")
            for k in range(len(lines)):
                for line in ("", "x", "settle", "hand lamp", "step wide up", lines[k] + " ", "source 1", "  " + lines[k], "meter", "spread 5" if k else "spread 0"):
                    changed = "\n".join(lines[:k] + [line] + lines[k + 1:] + ["source 10 0", "junk"])
                    self.assert_number(BadJournal, read_own(changed)[0], read_journal, changed)
                    self.assertLessEqual(read_own(changed)[0], k + 2)
                text_without = "\n".join(lines[:k] + lines[k + 1:] + ["source 10 0"])
                wanted = read_own(text_without)
                if wanted[0]:
                    self.assert_wrong(wanted[0], text_without)
                else:
                    self.assert_read(text_without)

    def test_deeds_of_no_such_form(self):
        for line in (
            "", " ", "x", "settle ", " settle", "Settle", "settle settle", "settle 1", "settles", "undo", "redo", "ranges", "shown", "steps", "calm", "volts", "ohms",
            "step", "step ", "step wide", "step wide ", "step  up", "step wide  up", " step wide up", "step wide up ", "step wide up up", "Step wide up", "stepwide up",
            "hand", "hand ", "hand  lamp", " hand lamp", "hand lamp ", "hand lamp lamp", "hands lamp", "meter wide", "load lamp 3", "spread 3", "step,wide,up",
            "stand 1 1", "hand lamp,",
        ):
            for deeds in ("", "\nsettle", "\nhand lamp\nhand lamp\nsource 3 1"):
                self.assert_wrong(BEGUN.count("\n") + deeds.count("\n") + 2, BEGUN + deeds + "\n" + line)
                self.assert_wrong(BEGUN.count("\n") + deeds.count("\n") + 2, BEGUN + deeds + "\n" + line + "\nsettle\n\njunk")

    def test_deeds_that_are_refused(self):
        for deeds, number in (
            ("step nobody up", 6), ("step lamp up", 6), ("step wide down", 6), ("step wide sideways", 6), ("step wide UP", 6), ("step up wide", 6), ("step wide 1", 6),
            ("hand nobody", 6), ("hand wide", 6), ("hand low", 6), ("hand LAMP", 6), ("step wide up\nstep wide up", 7), ("step wide up\nstep wide down", 7),
            ("settle\nstep wide up", 7), ("source 3 0\nstep wide up", 7), ("source 4 0\nstep wide up\nsource 2 0\nstep wide down", 9),
            ("source 39/10 0\nstep wide up", 7), ("settle\nsettle\nhand lamp\nhand lam\nhand lamp", 9),
        ):
            self.assert_wrong(number, BEGUN + "\n" + deeds)
        self.assert_read(BEGUN + "\nsource 4 0\nstep wide up\nsource 199/100 0\nstep wide down")
        # The meters would hunt.
        self.assert_wrong(8, PAIR + "\nsource 90 10\nsettle")
        self.assert_wrong(10, PAIR + "\nsource 9 0\nsettle\nsource 90 10\nsettle\nsettle")

    def test_a_line_feed_at_the_end(self):
        self.assert_wrong(6, BEGUN + "\n")
        self.assert_wrong(7, BEGUN + "\nsettle\n")
        self.assert_wrong(6, BEGUN + "\n\nsettle")
        self.assert_wrong(1, "\n" + BEGUN)
        self.assert_wrong(5, LAMP + "\n\nsource 10 0")

    def test_the_line_source_twice(self):
        self.assert_same(self.assert_read(BEGUN + "\nsource 10 0").done, 1)
        self.assert_same(self.assert_read(BEGUN + "\nsource 3 1/2\nsource 3 1/2").done, 2)
        # The first one ends the bench: what stands behind is no line of it.
        lines = PAIR.split("\n")
        self.assert_wrong(5, "\n".join(lines[:3] + ["source 10 0"] + lines[3:] + ["source 10 0"]))

    def test_the_first_wrong_line(self):
        self.assert_wrong(2, "meter wide\n range low load 2 unit 1\nsource 1 1\njunk\n")
        self.assert_wrong(6, BEGUN + "\njunk\nstep nobody up\n")
        self.assert_wrong(6, BEGUN + "\nhand nobody\nsettle\njunk")

    def test_changed_journals(self):
        rng = random.Random(1503)
        seen = {}
        for bench in drawn_benches(1503, 25, hands=1) + [Bench(PAIR), Bench(LAMP)]:
            lines = journal(drawn_table(rng, bench, 12)).split("\n")
            for _ in range(30):
                rows = list(lines)
                k, j = rng.randrange(len(rows)), rng.randrange(len(rows))
                kind = rng.randrange(7)
                if kind == 0:
                    del rows[k]
                elif kind == 1:
                    rows.insert(k, rows[j])
                elif kind == 2:
                    rows[k], rows[j] = rows[j], rows[k]
                elif kind == 3:
                    rows[k] = rng.choice((rows[k] + " ", rows[k].replace(" ", "  ", 1), rows[k][:-1], rows[k] + "x", rows[k].upper()))
                elif kind == 4:
                    rows.insert(k, rng.choice(("settle", "hand a", "hand z", "step a up", "step ab down", "source 9 1", "source 9/3 1", "")))
                elif kind == 5:
                    rows = rows[:k]
                else:
                    rows = rows[k:]
                text = "\n".join(rows)
                number, own = read_own(text)
                with self.subTest(text=text):
                    if number is None:
                        self.assert_read(text)
                    else:
                        self.assert_wrong(number, text)
                seen[own is None] = seen.get(own is None, 0) + 1
        self.assertGreater(min(seen[True], seen[False]), 40)


if __name__ == "__main__":
    unittest.main()

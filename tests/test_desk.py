"""Section 15: a desk, line by line."""

import random
import unittest

from rangehunt.always import calm
from rangehunt.benches import Bench
from rangehunt.desk import Desk
from rangehunt.errors import (
    BadJournal, BadLine, BadStep, Hunting, NoLoad, NoMeter, NothingToRedo, NothingToUndo, NotNow, TooMany,
)
from rangehunt.journals import journal, read_journal
from rangehunt.sources import Source
from rangehunt.stepping import steps
from rangehunt.tables import Table
from tests.drawn import drawn_benches
from tests.tools import FULL, LIT, MORE, PAIR, Case, any_values
from tests.world import own_points

WEAK = Source((90, 1), (10, 1))
LAMP = PAIR[:PAIR.index("\nmeter side")] + "\nload lamp 3"
BEGUN = LAMP + "\nsource 10 0"


def text_of(pair):
    """The text of a ratio."""
    return str(pair[0]) if pair[1] == 1 else "/".join(map(str, pair))


class Desks(Case):

    def test_the_example(self):
        desk = Desk(PAIR + "\nsource 90 10")
        lines = ("shown", "step side up", "ranges", "steps", "calm", "volts", "undo", "source 5/2 0", "settle", "shown")
        self.assert_same([desk.say(line) for line in lines], ["29 29", "ok", "low rough", "wide up", "hunts", "21 1247/10", "ok", "ok", "0", "25 25"])

    def test_the_table(self):
        desk = Desk(text=BEGUN + "\nhand lamp")
        self.assertIs(type(desk.table), Table)
        self.assertEqual(desk.table, read_journal(BEGUN + "\nhand lamp"))
        self.assert_same([desk.table.done, journal(desk.table)], [1, BEGUN + "\nhand lamp"])
        # Deeds on the table are there for the desk, and those of the desk for the table.
        desk.table.hand("lamp")
        self.assert_same([desk.say(line="ranges"), desk.say("undo"), desk.table.done], ["low", "ok", 1])
        self.assertFalse(Desk(BEGUN).table is Desk(BEGUN).table)

    def test_no_journals(self):
        for value in any_values():
            if type(value) is not str:
                self.assert_number(BadJournal, 0, Desk, value)
                self.assert_number(BadJournal, 0, Desk, text=value)
        for text, number in (("", 2), (LAMP, 5), (BEGUN + "\n", 6), (BEGUN + "\nundo", 6), (BEGUN + "\nhand nobody", 6), ("source 1 1", 1),
                             ("x\nsource 1 1", 1), (PAIR + "\nsource 90 10\nsettle", 8)):
            self.assert_number(BadJournal, number, Desk, text)


class Answers(Case):

    def test_deeds(self):
        desk = Desk(BEGUN)
        for line in ("step wide up", "hand lamp", "source 1 1/2", "step wide down", "hand lamp", "undo", "undo", "redo", "source 0 0", "undo"):
            self.assert_same(desk.say(line), "ok")
        self.assert_same(journal(desk.table), BEGUN + "\nstep wide up\nhand lamp\nsource 1 1/2\nstep wide down")
        self.assert_same([desk.table.setting, desk.table.done], [(("low",), ("lamp",)), 4])

    def test_settle(self):
        text = PAIR.replace("up 4\n  range high load 4 unit 1 down 2", "up 4\n  range high load 4 unit 1 down 2 up 5\n  range top load 4 unit 1 down 3")
        desk = Desk(text + "\nsource 9 0")
        self.assert_same([desk.say("settle"), desk.say("settle"), desk.table.done], ["3", "0", 2])
        self.assert_same([desk.say("ranges"), desk.say("source 0 0"), desk.say("settle"), desk.say("settle")], ["top rough", "ok", "3", "0"])

    def test_ranges(self):
        desk = Desk(LIT + "\nsource 3 0")
        found = [desk.say("ranges")]
        for line in ("hand b", "hand z", "step ba up", "hand b"):
            desk.say(line)
            found.append(desk.say("ranges"))
        self.assert_same(found, ["low fine", "low fine b", "low fine z b", "low fin z b", "low fin z"])
        self.assert_same(Desk("meter m\n  range a load 1 unit 1\nsource 1 1").say("ranges"), "a")

    def test_names_like_other_lines(self):
        text = "meter settle\n  range undo load 0 unit 1 up 1\n  range step load 0 unit 1 down 0\nload settle 1\nload undo 0"
        desk = Desk(text + "\nsource 3 0")
        found = [desk.say(line) for line in ("hand settle", "hand undo", "ranges", "step settle up", "settle", "undo", "undo", "steps", "settle", "ranges")]
        self.assert_same(found, ["ok", "ok", "undo settle undo", "ok", "0", "ok", "ok", "settle up", "1", "step settle undo"])

    def test_shown(self):
        self.assert_same(Desk("meter m\n  range a load 1 unit 1\nsource 7 1").say("shown"), "3")
        desk = Desk(FULL + "\nsource 999999999 0")
        self.assert_same(desk.say("shown"), " ".join(map(str, desk.table.figures)))
        self.assert_same(desk.say("shown"), "9999999990 199999999 999999999")

    def test_steps(self):
        desk = Desk(PAIR + "\nsource 9 0")
        self.assert_same(desk.say("steps"), "wide up, side up")
        desk.say("step wide up")
        self.assert_same(desk.say("steps"), "side up")
        desk.say("settle")
        self.assert_same(desk.say("steps"), "-")
        desk.say("source 0 0")
        self.assert_same(desk.say("steps"), "wide down, side down")

    def test_calm_of_the_setting_now(self):
        text = "meter m\n  range a load 0 unit 1 up 1\n  range b load 0 unit 1 down 1/9999\nmeter n\n  range low load 1 unit 1 up 4\n  range high load 9 unit 1 down 3"
        desk = Desk(text + "\nsource 0 0")
        self.assert_same(desk.say("calm"), calm(desk.table.bench, desk.table.setting)[0])
        desk = Desk(BEGUN)
        self.assert_same(desk.say("calm"), "calm")
        seen = set()
        for bench in drawn_benches(1511, 30, slope=1):
            desk = Desk(bench.text + "\nsource 99 1/2")
            for _ in range(3):
                word = desk.say("calm")
                seen.add(word)
                self.assert_same(word, calm(bench, desk.table.setting)[0])
                if desk.say("steps") != "-":
                    desk.say("step " + desk.say("steps").split(", ")[0])
        self.assertEqual(seen, {"calm", "hunts"})

    def test_calm_of_too_many_classes(self):
        desk = Desk(MORE + "\nsource 1 1")
        self.assert_number(TooMany, 400, desk.say, "calm")
        self.assert_same(desk.table.done, 0)

    def test_volts_and_ohms(self):
        desk = Desk("meter m\n  range a load 0 unit 1/3\nload x 1\nsource 7 1/2")
        self.assert_same([desk.say("volts"), desk.say("ohms")], ["7 22/3", "0 -"])
        desk.say("hand x")
        self.assert_same([desk.say("volts"), desk.say("ohms")], ["7 22/3", "2/5 4/7"])
        desk = Desk("meter m\n  range a load 1 unit 1\nsource 7 1/2")
        self.assert_same([desk.say("volts"), desk.say("ohms")], ["4 -", "0 -"])
        desk.say("source 0 0")
        self.assert_same([desk.say("volts"), desk.say("ohms")], ["0 -", "0 -"])

    def test_what_known_tells(self):
        rng = random.Random(1513)
        for bench in drawn_benches(1513, 25, hands=1):
            desk = Desk(bench.text + f"\nsource {rng.randrange(90)} {rng.choice((0, '1/2', 3, '7/5'))}")
            for _ in range(4):
                known = desk.table.known()
                for word, (least, _), most in (("volts", known[0], known[1]), ("ohms", known[2], known[3])):
                    self.assert_same(desk.say(word), f"{text_of(least)} {text_of(most) if most else '-'}")
                desk.say(f"hand {rng.choice(bench.loads)}")

    def test_against_the_table(self):
        rng = random.Random(1515)
        for bench in drawn_benches(1515, 25, hands=1):
            desk = Desk(bench.text + "\nsource 12 1/2")
            other = Table(bench, Source((12, 1), (1, 2)))
            for _ in range(20):
                self.assert_same(desk.say("ranges"), " ".join(other.setting[0] + other.setting[1]))
                self.assert_same(desk.say("shown"), " ".join(map(str, other.figures)))
                found = steps(bench, other.setting, other.source)
                self.assert_same(desk.say("steps"), ", ".join(map(" ".join, found)) or "-")
                self.do_both(rng, desk, other, found)
            self.assertEqual((desk.table, journal(desk.table)), (other, journal(other)))

    def do_both(self, rng, desk, other, found):
        word = rng.choice(("step", "step", "hand", "settle", "source", "undo", "redo"))
        if word == "step" and found:
            step = rng.choice(found)
            self.assert_same([desk.say("step " + " ".join(step)), other.step(*step)], ["ok", None])
        elif word == "hand":
            load = rng.choice(other.bench.loads)
            self.assert_same([desk.say("hand " + load), other.hand(load)], ["ok", None])
        elif word == "source":
            volts, ohms = rng.choice(rng.choice(list(own_points(other.bench).values())))
            self.assert_same(desk.say(f"source {volts} {ohms}"), "ok")
            other.stand(Source(volts.as_integer_ratio(), ohms.as_integer_ratio()))
        elif word != "step":
            self.do_or_refuse(desk, other, word)

    def do_or_refuse(self, desk, other, word):
        call = {"settle": other.settle, "undo": other.undo, "redo": other.redo}[word]
        try:
            wanted = call()
        except (Hunting, NothingToUndo, NothingToRedo) as error:
            self.assert_same(self.raised(type(error), desk.say, word).value, error.value)
        else:
            self.assert_same(desk.say(word), "ok" if wanted is None else str(len(wanted)))


class Wrong(Case):

    def assert_no_line(self, desk, value):
        ahead = journal(desk.table)
        self.assert_refused(BadLine, value, desk.say, value)
        self.assert_refused(BadLine, value, desk.say, line=value)
        self.assert_same(journal(desk.table), ahead)

    def test_no_strings(self):
        desk = Desk(BEGUN)
        for value in any_values() + [b"settle", ("settle",), ["settle"], {"settle": 1}]:
            self.assert_no_line(desk, value)

    def test_other_words(self):
        desk = Desk(BEGUN)
        for line in (
            "", " ", "x", "say", "Settle", "SETTLE", "settles", "settl", "undo undo", "undo 1", "redo redo", "ranges 1", "range", "show", "shown now", "step", "steps all",
            "step wide", "step wide up up", "step wide up 1", "hand", "hand lamp lamp", "hands lamp", "source", "source 1", "source 1 1 1", "calm wide", "calms", "hunts",
            "volts 1", "volt", "ohm", "keep", "trial", "copy", "journal", "known", "meter wide", "load lamp 3", "spread 3", "stand 1 1", "figures", "log", "done", "-", "ok",
            "settle,", "step wide,up", "undo;", "turn lamp",
        ):
            self.assert_no_line(desk, line)

    def test_other_blanks_and_line_feeds(self):
        desk = Desk(BEGUN)
        for right in ("step wide up", "hand lamp", "settle", "source 1 1", "undo", "redo", "ranges", "shown", "steps", "calm", "volts", "ohms"):
            for line in (right + " ", " " + right, right + "\n", "\n" + right, right + "\nsettle", "settle\n" + right, right.replace(" ", "  ") + ("  " * (" " not in right)),
                         right.replace(" ", "\n") + ("\n" * (" " not in right)), right.upper(), right.title(), right + "  "):
                self.assert_no_line(desk, line)
        for line in ("hand ", "hand  ", "step  up", "step wide ", "step  ", "step   ", "source  1", "source 1 ", "source  ", " up", " lamp"):
            self.assert_no_line(desk, line)
        for line in ("hand la\nmp", "hand \n", "hand lamp\n", "step wide up\n", "step wi\nde up", "hand \nlamp", "step wide \n", "source 1 1\n", "source 1\n1 1", "source 1 \n"):
            self.assert_no_line(desk, line)

    def test_texts_of_ratios(self):
        desk = Desk(BEGUN)
        for word in ("01", "00", "+1", "-1", "-0", "1/1", "2/2", "2/4", "0/1", "0/2", "1/0", "1/", "/1", "/", "1/2/3", "01/2", "1/02", "1.0", "1e2", "1_0", "a", "1/a", "(1,2)",
                     "1,2", "one", "0x1", "1/-2"):
            self.assert_no_line(desk, f"source {word} 0")
            self.assert_no_line(desk, f"source 0 {word}")
        for volts in ("0", "1", "10", "999999999", "1/2", "0", "1/999999999", "999999999/2", "12345/67891", "123456789/987654320"):
            self.assert_same([desk.say(f"source {volts} 0"), text_of(desk.table.source.volts)], ["ok", volts])
            self.assert_same([desk.say(f"source 0 {volts}"), text_of(desk.table.source.ohms)], ["ok", volts])

    def test_what_the_table_refuses(self):
        desk = Desk(BEGUN)
        for error, value, line in (
            (NoMeter, "nobody", "step nobody up"), (NoMeter, "lamp", "step lamp up"), (NoMeter, "Wide", "step Wide up"), (NoMeter, "wide,", "step wide, up"),
            (NoMeter, "1", "step 1 2"), (NoMeter, "nobody", "step nobody nowhere"), (NoMeter, "step", "step step step"), (NoMeter, "-", "step - -"),
            (BadStep, ("wide", "down"), "step wide down"), (BadStep, ("wide", "left"), "step wide left"), (BadStep, ("wide", "UP"), "step wide UP"),
            (BadStep, ("wide", "wide"), "step wide wide"), (BadStep, ("wide", "1"), "step wide 1"), (NoLoad, "nobody", "hand nobody"), (NoLoad, "wide", "hand wide"),
            (NoLoad, "Lamp", "hand Lamp"), (NoLoad, "1", "hand 1"), (NoLoad, "hand", "hand hand"), (NothingToUndo, None, "undo"), (NothingToRedo, None, "redo"),
        ):
            self.assert_same(self.raised(error, desk.say, line).value, value)
            self.assert_same([desk.table.done, journal(desk.table)], [0, BEGUN])
        desk.say("source 3 0")
        self.assert_same(self.raised(NotNow, desk.say, "step wide up").value, ("wide", "up"))
        desk.say("undo")
        desk.say("step wide up")
        self.assert_same(self.raised(NotNow, desk.say, "step wide down").value, ("wide", "down"))
        self.assert_same(desk.table.done, 1)

    def test_hunting(self):
        desk = Desk(PAIR + "\nsource 90 10")
        row = (("side", "up"), ("wide", "up"), ("side", "down"), ("wide", "down"))
        self.assert_same(self.raised(Hunting, desk.say, "settle").value, row)
        self.assert_same(desk.table.done, 0)

    def test_redo_behind_refused_lines(self):
        desk = Desk(BEGUN)
        desk.say("hand lamp")
        desk.say("undo")
        for line in ("hand nobody", "step wide down", "junk", "step nobody up", "source 2/2 1"):
            with self.assertRaises((NoLoad, BadStep, BadLine, NoMeter)):
                desk.say(line)
        for line in ("ranges", "shown", "steps", "calm", "volts", "ohms"):
            desk.say(line)
        self.assert_same([desk.say("redo"), desk.say("ranges")], ["ok", "low lamp"])

    def test_great_sources(self):
        desk = Desk("meter m\n  range a load 1 unit 1\nsource 999999999 1/999999999")
        for word in ("99999", "123456", "9999999", "99999999", "999999999", "999999999/999999998", "1/999999999", "99999/100000"):
            self.assert_same(desk.say(f"source {word} {word}"), "ok")
            self.assert_same([text_of(desk.table.source.volts), text_of(desk.table.source.ohms)], [word, word])
            self.assertTrue(journal(desk.table).endswith(f"\nsource {word} {word}"))
        self.assertEqual(read_journal(journal(desk.table)), desk.table)

    def test_a_desk_that_is_in_a_trial(self):
        desk = Desk(BEGUN)
        with desk.table.trial():
            desk.say("hand lamp")
            self.assert_same(desk.say("ranges"), "low lamp")
        self.assert_same([desk.say("ranges"), desk.table.done], ["low", 0])


if __name__ == "__main__":
    unittest.main()

"""Section 3: what holds on all benches and sources, and over the whole program."""

import random
import unittest
from fractions import Fraction

from rangehunt.always import alone, calm, comes, keeps
from rangehunt.benches import Bench
from rangehunt.beside import alike
from rangehunt.changing import cheapest
from rangehunt.classes import line_up
from rangehunt.errors import Hunting, MeterError
from rangehunt.journals import journal, read_journal
from rangehunt.logs import between, conditions, extent, fits, shows_fits
from rangehunt.resting import reached, rests, ring
from rangehunt.sources import Source
from rangehunt.spreading import least_spread
from rangehunt.stepping import after, reads, shown, steps, turned, walked
from rangehunt.tables import Table
from tests.drawn import drawn_benches, source_of
from tests.own_logs import Left, drawn_logs, own_conditions, walk_log
from tests.tools import LIT, PAIR, Case, fraction
from tests.world import going_on, own_points, world_of


def any_source(rng, bench):
    """Any source: one on or near a line, or one that has nothing to do with the bench."""
    if rng.randrange(2):
        volts, ohms = rng.choice(rng.choice(list(own_points(bench).values())))
        return source_of((volts * rng.choice((1, 1, Fraction(10 ** 6 + 1, 10 ** 6), Fraction(7, 8))), ohms))
    return source_of((Fraction(rng.randrange(300), rng.randrange(1, 9)), Fraction(rng.randrange(90), rng.randrange(1, 20))))


def falls(bench):
    return all(row[1] == other[1] or fraction(row[1]) >= fraction(other[1])
               for meter in bench.meters for row, other in zip(bench[meter], bench[meter][1:]))


def rises(bench):
    return all(fraction(row[1]) <= fraction(other[1])
               for meter in bench.meters for row, other in zip(bench[meter], bench[meter][1:]))


class AllSources(Case):
    """(a)"""

    def test_what_is_told_for_all_sources(self):
        rng = random.Random(31)
        for bench in drawn_benches(31, 60) + drawn_benches(32, 30, slope=-1):
            setting, goal = rng.choice(bench.settings), rng.choice(bench.settings)
            words = [calm(bench, setting)[0], comes(bench, setting, goal)[0], alone(bench, setting)[0], keeps(bench, setting)[0]]
            for _ in range(25):
                world = world_of(bench, any_source(rng, bench))
                if words[0] == "calm":
                    self.assertFalse(world.can_hunt(setting))
                if words[1] == "never":
                    self.assertNotIn(goal, world.rests(setting))
                if words[2] == "one":
                    self.assertLess(len(world.rests(setting)), 2)
                if words[3] == "keeps":
                    found = going_on(setting, world.deeds)
                    self.assertFalse(any(world.moved(setting, one) for one in found))

    def test_all_orders_of_steps(self):
        rng = random.Random(33)
        for bench in drawn_benches(33, 60):
            if calm(bench, bench.first)[0] == "calm":
                for _ in range(10):
                    source, here = any_source(rng, bench), bench.first
                    seen = [here]
                    while steps(bench, here, source):
                        here = after(bench, here, rng.choice(steps(bench, here, source)))
                        self.assertNotIn(here, seen)
                        seen.append(here)

    def test_orders_hold_on_each_source_of_their_class(self):
        rng = random.Random(34)
        for bench in drawn_benches(34, 40):
            told = calm(bench, bench.first)
            orders = {line_up(bench, source): order for source, order in told[1]} if told[0] == "calm" else {}
            for _ in range(10 if orders else 0):
                source = any_source(rng, bench)
                order = orders[line_up(bench, source)]
                for k, one in enumerate(order):
                    for step in steps(bench, one, source):
                        self.assertIn(after(bench, one, step), order[k + 1:])

    def test_what_is_told_to_happen(self):
        seen = set()
        for bench in drawn_benches(35, 60) + drawn_benches(36, 40, hands=2) + [Bench(PAIR), Bench(LIT)]:
            for setting in bench.settings[::3]:
                told = [calm(bench, setting), comes(bench, setting, bench.settings[-1]), alone(bench, setting), keeps(bench, setting)]
                seen.update(one[0] for one in told)
                if told[0][0] == "hunts":
                    start = walked(bench, setting, *told[0][1:3])
                    self.assert_same(walked(bench, start, told[0][1], told[0][3]), start)
                if told[1][0] == "comes":
                    self.assert_same(walked(bench, setting, *told[1][1:]), bench.settings[-1])
                    self.assert_same(steps(bench, bench.settings[-1], told[1][1]), ())
                if told[2][0] == "two":
                    ends = [walked(bench, setting, told[2][1], row) for row in told[2][2:]]
                    self.assertNotEqual(*ends)
                    self.assert_same([steps(bench, end, told[2][1]) for end in ends], [(), ()])
                if told[3][0] == "moved":
                    self.assert_moved(bench, setting, *told[3][1:])
        self.assertLessEqual({"hunts", "comes", "two", "moved"}, seen)

    def assert_moved(self, bench, setting, source, deeds):
        here = setting
        for deed in deeds:
            if len(deed) == 1:
                here = turned(bench, here, deed[0])
            else:
                self.assertIn(deed, steps(bench, here, source))
                here = after(bench, here, deed)
        self.assert_same([steps(bench, here, source), here[1]], [(), setting[1]])
        self.assertNotIn(here, rests(bench, setting, source))


class Loads(Case):
    """(b)"""

    def test_a_load_on_is_as_good_as_a_source_under_it(self):
        rng = random.Random(37)
        for bench in drawn_benches(37, 40, hands=2) + drawn_benches(38, 20, hands=1) + [Bench(LIT)]:
            for setting in bench.settings:
                for load in setting[1]:
                    off = turned(bench, setting, load)
                    for _ in range(4):
                        source = any_source(rng, bench)
                        under = source.under(bench.load(load))
                        self.assert_same(steps(bench, setting, source), steps(bench, off, under))
                        self.assert_same(shown(bench, setting, source), shown(bench, off, under))
                        ranges = [[one[0] for one in rests(bench, *some)] for some in ((setting, source), (off, under))]
                        self.assert_same(*ranges)


class Firm(Case):
    """(c)"""

    def test_just_one_rest_whatever_the_order(self):
        rng = random.Random(39)
        for bench in drawn_benches(39, 50) + drawn_benches(40, 25, slope=1) + [Bench(PAIR), Bench(LIT)]:
            volts = [Fraction(0), Fraction(rng.randrange(99), 7)]
            volts += [fraction(part) for meter in bench.meters for row in bench[meter] for part in row[3:] if part]
            for source in [source_of((part, Fraction(0))) for part in volts]:
                for setting in rng.sample(bench.settings, min(4, len(bench.settings))):
                    self.assertEqual(len(rests(bench, setting, source)), 1)
                    self.assert_same(ring(bench, setting, source)[0], "calm")
                    here = setting
                    while steps(bench, here, source):
                        here = after(bench, here, rng.choice(steps(bench, here, source)))
                    self.assert_same((here,), rests(bench, setting, source))


class Falling(Case):
    """(d)"""

    def test_the_meters_come_to_rest(self):
        rng = random.Random(41)
        for bench in drawn_benches(41, 60, slope=-1):
            self.assertTrue(falls(bench))
            for setting in rng.sample(bench.settings, min(5, len(bench.settings))):
                self.assert_same(calm(bench, setting)[0], "calm")
                for _ in range(4):
                    source = any_source(rng, bench)
                    self.assertNotEqual(rests(bench, setting, source), ())
                    self.assert_same(ring(bench, setting, source)[0], "calm")


class Rising(Case):
    """(e)"""

    def test_hunting_shows_in_a_step_and_its_contrary_step(self):
        rng = random.Random(42)
        seen = 0
        for bench in drawn_benches(42, 120, slope=1):
            self.assertTrue(rises(bench))
            setting = rng.choice(bench.settings)
            told = calm(bench, setting)
            sources = [told[1]] if told[0] == "hunts" else []
            for source in sources + [any_source(rng, bench) for _ in range(4)]:
                if ring(bench, setting, source)[0] == "hunts":
                    seen += 1
                    self.assertTrue(any(
                        (meter, "down" if way == "up" else "up") in steps(bench, after(bench, one, (meter, way)), source)
                        for one in reached(bench, setting, source) for meter, way in steps(bench, one, source)
                    ))
        self.assertGreater(seen, 30)


class Scales(Case):
    """(f)"""

    def scaled(self, text, words, by):
        """The text with all ratios behind these words times this number."""
        lines = []
        for line in text.split("\n"):
            parts = line.split(" ")
            for k in range(2, len(parts)):
                is_told = parts[k - 1] in words and parts[2] == "range" and k > 4
                if is_told or (parts[0] == "load" and k == 2 and "load" in words):
                    number = Fraction(parts[k]) * by
                    parts[k] = str(number.numerator) if number.denominator == 1 else f"{number.numerator}/{number.denominator}"
            lines.append(" ".join(parts))
        return "\n".join(lines)

    def test_thresholds_units_and_volts(self):
        self.assert_scaled(("up", "down", "unit"), lambda source, by: source_of((fraction(source.volts) * by, fraction(source.ohms))))

    def test_loads_and_ohms(self):
        self.assert_scaled(("load",), lambda source, by: source_of((fraction(source.volts), fraction(source.ohms) / by)))

    def assert_scaled(self, words, change):
        rng = random.Random(43)
        seen = 0
        for bench in drawn_benches(43, 60) + [Bench(PAIR), Bench(LIT)]:
            for by in (Fraction(3), Fraction(1, 2), Fraction(7, 5)):
                text = self.scaled(bench.text, words, by)
                if any(int(part) > 9999 for word in text.split() for part in word.split("/") if part.isdigit()):
                    continue
                other = Bench(text)
                seen += 1
                for setting in bench.settings[::2]:
                    source = any_source(rng, bench)
                    changed = change(source, by)
                    self.assert_same(steps(other, setting, changed), steps(bench, setting, source))
                    self.assert_same(shown(other, setting, changed), shown(bench, setting, source))
                    self.assert_same(rests(other, setting, changed), rests(bench, setting, source))
                self.assert_same(calm(other, bench.first)[0], calm(bench, bench.first)[0])
        self.assertGreater(seen, 60)

    def test_the_scaling_itself(self):
        wanted = PAIR.replace("load 1 ", "load 3 ").replace("load 2 ", "load 6 ").replace("load 4 ", "load 12 ")
        self.assertEqual(self.scaled(PAIR + "\nload load 1/3", ("load",), 3), wanted + "\nload load 1")
        wanted = "meter up\n  range unit load 2 unit 1/5 up 8\n  range down load 4 unit 2 down 4"
        text = "meter up\n  range unit load 2 unit 1/10 up 4\n  range down load 4 unit 1 down 2"
        self.assertEqual(self.scaled(text, ("up", "down", "unit"), 2), wanted)


class Spreads(Case):
    """(g)"""

    def test_calm_stays_calm(self):
        rng = random.Random(44)
        seen = 0
        for bench in drawn_benches(44, 40, slope=1) + drawn_benches(45, 30):
            setting = rng.choice(bench.settings)
            many = rng.randrange(20)
            words = [calm(bench.spread_by(spread), setting)[0] for spread in (many, rng.randrange(many + 1, 21))]
            self.assertNotEqual(words, ["calm", "hunts"])
            least = least_spread(bench, setting)[1]
            self.assert_same([word == "calm" for word in words[:1]], [many >= least])
            seen += words == ["hunts", "calm"]
        self.assertGreater(seen, 3)

    def test_no_ring_on_any_source(self):
        rng = random.Random(46)
        for bench in drawn_benches(46, 30, slope=1):
            setting = rng.choice(bench.settings)
            least = least_spread(bench, setting)[1]
            for spread in {least, rng.randrange(least, 21), 20}:
                some = bench.spread_by(spread)
                for _ in range(8):
                    self.assertFalse(world_of(some, any_source(rng, bench)).can_hunt(setting))


class Shown(Case):
    """(a): what a log tells holds on each source on which it may be seen."""

    def test_bounds_hold_on_each_source_that_fits(self):
        rng = random.Random(47)
        for bench in drawn_benches(47, 40, hands=1):
            source = any_source(rng, bench)
            log = walk_log(rng, bench, fraction(source.volts), fraction(source.ohms), rng.randrange(1, 13))
            self.assert_same([fits(bench, log)[0], shows_fits(bench, log, ("fits", source))], ["fits", True])
            (least, is_taken), most, (low, is_low), high = extent(bench, log)
            self.assertTrue(fraction(source.volts) >= fraction(least) and (is_taken or source.volts != least))
            self.assertTrue(fraction(source.ohms) >= fraction(low) and (is_low or source.ohms != low))
            self.assertTrue(most == () or fraction(source.volts) < fraction(most))
            self.assertTrue(high == () or fraction(source.ohms) < fraction(high))
            for setting in bench.settings:
                (least, is_taken), most = between(bench, log, setting)
                read = reads(bench, setting, source)
                self.assertTrue(fraction(read) >= fraction(least) and (is_taken or read != least))
                self.assertTrue(most == () or fraction(read) < fraction(most))

    def test_what_is_taken_is_there(self):
        # Volts that are taken are those of a source that fits; of those that are not, a little more are.
        rng = random.Random(48)
        seen = set()
        for bench in drawn_benches(48, 25, hands=1):
            for log in drawn_logs(rng, bench, 3):
                left = Left(own_conditions(bench, log))
                if left.pieces:
                    (least, is_taken), _, _, _ = extent(bench, log)
                    seen.add(is_taken)
                    lowest = min((left.lower(place), place) for _, place, _ in left.pieces)
                    self.assert_same(is_taken, lowest[0] == fraction(least))
                    source = source_of(lowest)
                    self.assert_same([shows_fits(bench, log, ("fits", source)), source.volts == least], [True, is_taken])
        self.assertEqual(seen, {True, False})

    def test_no_source_fits_where_never_is_told(self):
        rng = random.Random(49)
        for bench in drawn_benches(49, 25):
            for log in drawn_logs(rng, bench, 4):
                asked = conditions(bench, log)
                if fits(bench, log)[0] == "never":
                    for _ in range(10):
                        source = any_source(rng, bench)
                        volts, ohms = fraction(source.volts), fraction(source.ohms)
                        holds = [(volts >= fraction(u) + fraction(m) * ohms) == (word == "least") for u, m, word in asked]
                        self.assertFalse(all(holds))


class Beside(Case):
    """(a) of two benches, and of changes."""

    def test_alike_on_each_source(self):
        rng = random.Random(50)
        seen = set()
        for bench in drawn_benches(50, 40):
            other = bench.spread_by(rng.choice((1, 2, 20)))
            setting = rng.choice(bench.settings)
            told = alike(bench, other, setting)
            seen.add(told[0])
            for _ in range(10):
                source = any_source(rng, rng.choice((bench, other)))
                if told[0] == "alike":
                    self.assert_same(rests(bench, setting, source), rests(other, setting, source))
            if told[0] == "parts":
                own, further = (bench, other) if told[3] else (other, bench)
                goal = walked(own, setting, *told[1:3])
                self.assert_same([steps(own, goal, told[1]), goal in rests(further, setting, told[1])], [(), False])
        self.assertEqual(seen, {"alike", "parts"})

    def test_what_is_chosen_is_calm_on_each_source(self):
        rng = random.Random(51)
        seen = 0
        for bench in drawn_benches(51, 40, slope=1):
            line = bench.text.split("\n")[0]
            if bench.spread == 0:
                offers = tuple((1, f"spread {many}\n{line}", price) for many, price in ((20, 9), (3, 2), (8, 4)))
                told = cheapest(bench, tuple(sorted(offers)), (("calm", bench.first),))
                self.assert_same(told[0], "choice")
                least = least_spread(bench, bench.first)[1]
                wanted = 0 if least == 0 else 2 if least <= 3 else 4 if least <= 8 else 9
                self.assert_same(told[1], wanted)
                seen += least > 0
        self.assertGreater(seen, 3)


class Live(Case):
    """(h)"""

    def played(self, rng, bench, many):
        """A table on which so many things were done, and the deeds that stand."""
        table = Table(bench, any_source(rng, bench))
        began, deeds = table.source, []
        for _ in range(many):
            found = [("step", *step) for step in steps(bench, table.setting, table.source)]
            found += [("hand", load) for load in bench.loads] + [("settle",), ("stand", any_source(rng, bench))]
            word, *more = rng.choice(found)
            try:
                getattr(table, word)(*more)
            except Hunting:
                continue
            deeds.append((word, *more))
        return table, began, deeds

    def test_a_table_tells_what_its_deeds_came_to(self):
        rng = random.Random(52)
        for bench in drawn_benches(52, 30, hands=1) + [Bench(PAIR), Bench(LIT)]:
            table, source, deeds = self.played(rng, bench, 15)
            here = bench.first
            for word, *more in deeds:
                if word == "step":
                    self.assertIn(tuple(more), steps(bench, here, source))
                    here = after(bench, here, tuple(more))
                elif word == "hand":
                    here = turned(bench, here, *more)
                elif word == "stand":
                    source, = more
                else:
                    while steps(bench, here, source):
                        here = after(bench, here, steps(bench, here, source)[0])
            self.assert_same([table.setting, table.done, table.figures], [here, len(deeds), shown(bench, here, source)])
            self.assertEqual(table.source, source)
            self.assert_same(shows_fits(bench, table.log, ("fits", source)), True)
            self.assert_same(table.log[-1], (here, shown(bench, here, source)))

    def test_undone_deeds_and_trials_leave_nothing(self):
        rng = random.Random(53)
        for bench in drawn_benches(53, 20, hands=1):
            table, _, _ = self.played(rng, bench, 8)
            text, log, done = journal(table), table.log, table.done
            with table.trial():
                for _ in range(6):
                    try:
                        rng.choice((table.undo, table.redo, table.settle, lambda: table.hand(bench.loads[0])))()
                    except MeterError:
                        pass
            self.assert_same([journal(table), table.log, table.done], [text, log, done])
            for _ in range(5):
                table.hand(bench.loads[0])
            for _ in range(5):
                table.undo()
            self.assert_same([journal(table), table.log, table.done], [text, log, done])

    def test_a_journal_is_read_back(self):
        rng = random.Random(54)
        for bench in drawn_benches(54, 20, hands=1) + drawn_benches(55, 10):
            table, _, _ = self.played(rng, bench, 20)
            other = read_journal(journal(table))
            self.assertEqual(other, table)
            self.assert_same([other.log, other.done, other.known(), journal(other)], [table.log, table.done, table.known(), journal(table)])
            with other.trial():
                other.hand(bench.loads[0]) if bench.loads else other.undo()
            self.assert_same(journal(other), journal(table))


class Named(Case):

    def test_examples_by_hand(self):
        pair = Bench(PAIR)
        weak = Source((90, 1), (10, 1))
        # (b): the source with a load of 1 on is one of 90/11 volts behind 10/11 ohms.
        lit = Bench(PAIR + "\nload lamp 1")
        under = Source((90, 11), (10, 11))
        for ranges, _ in pair.settings:
            self.assert_same(steps(lit, (ranges, ("lamp",)), weak), steps(pair, (ranges, ()), under))
        # (c): 4 volts at 0 ohms are just enough for both to go up, and to stay there.
        firm = Source((4, 1), (0, 1))
        for setting in pair.settings:
            self.assert_same(rests(pair, setting, firm), ((("high", "rough"), ()),))


if __name__ == "__main__":
    unittest.main()

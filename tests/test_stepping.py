"""Section 6: what the meters read, show and do on one source."""

import random
import unittest
from fractions import Fraction
from math import floor

from rangehunt.benches import Bench
from rangehunt.errors import BadStep, BadSteps, NoLoad
from rangehunt.sources import Source
from rangehunt.stepping import after, draw, reads, shown, steps, turned, walked
from tests.drawn import drawn_benches, source_of
from tests.tools import FULL, LIT, PAIR, Case, any_values, fraction, is_same, nested, pair_of
from tests.world import own_draw, own_lines, range_at, world_of

WEAK = Source((90, 1), (10, 1))
NONE = Source((0, 1), (0, 1))
TWO = "meter m\n  range a load 1 unit 1/10 up 4\n  range b load 2 unit 1 down 2"
RING = (("side", "up"), ("wide", "up"), ("side", "down"), ("wide", "down"))


def firm(volts):
    """A source of these volts and of 0 ohms."""
    return source_of((Fraction(volts), Fraction(0)))


def sources_beside(bench):
    """Sources just on each line of the bench, and a little beside it, of some ohms."""
    little = Fraction(1, 10 ** 9)
    found = []
    for u, m in sorted(own_lines(bench)):
        for ohms in (Fraction(0), Fraction(1, 3), Fraction(10), Fraction(999999999)):
            volts = u + m * ohms
            found += [source_of((volts + by * min(u, 1), ohms)) for by in (0, -little, little)]
    return found


def some_sources(rng, many):
    words = (0, 1, 2, 3, 5, 10, 50, 9999, 999999999)
    found = []
    for _ in range(many):
        volts, ohms = [Fraction(rng.choice(words), rng.choice(words[1:])) for _ in range(2)]
        found.append(source_of((volts, ohms)))
    return found


def near_steps(bench):
    """Values that are no steps of the bench, but nearly, and any others."""
    meter = bench.meters[0]
    found = any_values() + [
        [meter, "up"], (meter,), (meter, "up", "up"), ("up", meter), (meter, "Up"), (meter, "UP"), (meter, "up "), (meter, ""),
        (meter, "u"), (meter, None), (meter, True), (meter, 1), (meter, ("up",)), (meter, ["up"]), (meter, "turn"),
        ((meter, "up"),), ((meter,), "up"), ([meter], "up"), (meter.upper(), "up"), (meter + "x", "up"), (meter + " ", "up"),
        ("", "up"), ("nobody", "up"), ("nobody", "down"), (None, "up"), (0, "up"), (True, "down"), (nested(20), "up"),
        ("high", "up"), {meter: "up"}, {"up": meter}, meter + " up", meter, "up", (bench, "up"), (bench.meters, "up"),
        (meter, nested(20)), (0, 1), (meter, -1), ("up", "up"), ("up", "down"), (meter, meter), ((), ()), ("lamp", "up"),
    ]
    right = [(name, way) for name in bench.meters for way in ("up", "down")]
    return [value for value in found if not any(is_same(value, step) for step in right)]


class Example(Case):

    def test_the_example(self):
        pair = Bench(PAIR)
        first = pair.first
        found = [reads(pair, first, WEAK), shown(pair, first, WEAK), steps(pair, first, WEAK), after(pair, first, ("wide", "up"))]
        self.assert_same(found, [(90, 31), (29, 29), (("side", "up"),), (("high", "fine"), ())])
        self.assert_same(walked(pair, first, WEAK, RING), first)

    def test_what_it_reads_on_the_way(self):
        pair = Bench(PAIR)
        found = [reads(pair, walked(pair, pair.first, WEAK, RING[:k]), WEAK) for k in range(4)]
        self.assert_same(found, [(90, 31), (30, 7), (90, 41), (30, 17)])


class Reading(Case):

    def test_draw(self):
        full = Bench(FULL)
        self.assert_same(draw(Bench(PAIR), (("low", "fine"), ())), (3, 1))
        self.assert_same(draw(Bench(PAIR), (("high", "rough"), ())), (4, 1))
        self.assert_same(draw(full, (("lower", "low", "load"), ())), (11, 6))
        self.assert_same(draw(full, (("lower", "low", "load"), ("wide",))), (53, 6))
        self.assert_same(draw(full, (("lower", "low", "load"), ("lamp",))), (11, 6))
        self.assert_same(draw(full, (("lower", "low", "load"), ("wide", "lamp"))), (53, 6))
        self.assert_same(draw(Bench("meter m\n  range a load 0 unit 1"), (("a",), ())), (0, 1))

    def test_draws_and_reads_of_drawn_benches(self):
        rng = random.Random(61)
        for bench in drawn_benches(61, 30, most_lines=60, most_settings=80) + [Bench(FULL), Bench(LIT)]:
            for setting in bench.settings:
                load = own_draw(bench, setting)
                self.assert_same(draw(bench, setting), pair_of(load))
                for source in some_sources(rng, 3):
                    self.assert_same(reads(bench, setting, source), source.at(pair_of(load)))
                    read = fraction(source.volts) / (1 + fraction(source.ohms) * load)
                    self.assert_same(reads(bench=bench, setting=setting, source=source), pair_of(read))

    def test_reads_of_no_ohms_and_of_no_volts(self):
        for bench in (Bench(PAIR), Bench(FULL), Bench(LIT)):
            for setting in bench.settings:
                self.assert_same(reads(bench, setting, firm(Fraction(7, 3))), (7, 3))
                self.assert_same(reads(bench, setting, Source((0, 1), (5, 1))), (0, 1))
                self.assert_same(shown(bench, setting, NONE), (0,) * len(bench))


class Showing(Case):

    def test_rounded_down(self):
        for unit, volts, figure in (
            ("1", 3, 3), ("1", Fraction(29, 10), 2), ("1", Fraction(299999999, 10 ** 8), 2), ("1", Fraction(1, 9), 0),
            ("1/10", 3, 30), ("1/10", Fraction(29, 10), 29), ("1/10", Fraction(289, 100), 28), ("1/10", Fraction(291, 100), 29),
            ("5", 10, 2), ("5", Fraction(99, 10), 1), ("5", Fraction(49, 10), 0), ("5", 5, 1), ("5", 14, 2), ("5", 0, 0),
            ("2/3", 2, 3), ("2/3", Fraction(199, 100), 2), ("2/3", Fraction(2, 3), 1), ("2/3", Fraction(665, 1000), 0),
            ("9999", 9999, 1), ("9999", 9998, 0), ("1/9999", 1, 9999), ("9999/9998", 9999, 9998), ("1/9999", 9999, 99980001),
        ):
            for text in (f"meter m\n  range a load 7 unit {unit}", f"meter m\n  range a load 0 unit {unit}\nload z 1"):
                bench = Bench(text)
                with self.subTest(unit=unit, volts=volts):
                    self.assert_same(shown(bench, bench.first, firm(volts)), (figure,))

    def test_behind_ohms(self):
        bench = Bench("meter m\n  range a load 1 unit 1/10\nmeter n\n  range b load 1 unit 2")
        # 3 * volts behind 1 ohm, beside a draw of 2, read just volts.
        self.assert_same(shown(bench, bench.first, Source((12, 1), (1, 1))), (40, 2))
        self.assert_same(shown(bench, bench.first, Source((11999, 1000), (1, 1))), (39, 1))
        self.assert_same(shown(bench, bench.first, Source((12001, 1000), (1, 1))), (40, 2))

    def test_figures_of_drawn_benches(self):
        rng = random.Random(62)
        for bench in drawn_benches(62, 30, most_lines=60, most_settings=80) + [Bench(FULL), Bench(LIT)]:
            for setting in bench.settings:
                ranges = [range_at(bench, setting, meter)[1] for meter in bench.meters]
                for source in some_sources(rng, 3):
                    read = world_of(bench, source).reads(setting)
                    self.assert_same(shown(bench, setting, source), tuple(floor(read / fraction(row[2])) for row in ranges))

    def test_just_whole_numbers_of_units_on_drawn_benches(self):
        for bench in drawn_benches(63, 20) + [Bench(FULL), Bench(LIT)]:
            for setting in bench.settings:
                for k, meter in enumerate(bench.meters):
                    unit = fraction(range_at(bench, setting, meter)[1][2])
                    for ohms in (Fraction(0), Fraction(2, 7), Fraction(9)):
                        for many in (1, 7, 100):
                            volts = many * unit * (1 + ohms * own_draw(bench, setting))
                            source = source_of((volts, ohms))
                            self.assert_same(shown(bench=bench, setting=setting, source=source)[k], many)
                            less = source_of((volts - volts / 10 ** 9, ohms))
                            self.assert_same(shown(bench, setting, less)[k], many - 1)


class Stepping(Case):

    def test_up_at_the_upper_threshold(self):
        bench = Bench(TWO)
        for volts, wanted in ((4, True), (Fraction(39999, 10000), False), (Fraction(40001, 10000), True), (0, False), (9999, True)):
            self.assert_same(steps(bench, bench.first, firm(volts)), (("m", "up"),) if wanted else ())
        # 4 * (1 + 10 * 1) volts behind 10 ohms read just 4.
        self.assert_same(steps(bench, bench.first, Source((44, 1), (10, 1))), (("m", "up"),))
        self.assert_same(steps(bench, bench.first, Source((43, 1), (10, 1))), ())

    def test_down_below_the_lower_threshold(self):
        bench, high = Bench(TWO), (("b",), ())
        for volts, wanted in ((2, False), (Fraction(19999, 10000), True), (Fraction(20001, 10000), False), (0, True), (9999, False)):
            self.assert_same(steps(bench, high, firm(volts)), (("m", "down"),) if wanted else ())
        self.assert_same(steps(bench, high, Source((42, 1), (10, 1))), ())
        self.assert_same(steps(bench, high, Source((41, 1), (10, 1))), (("m", "down"),))

    def test_lower_thresholds_less_by_the_spread(self):
        for many, threshold in ((1, Fraction(19, 10)), (2, Fraction(9, 5)), (10, Fraction(1)), (19, Fraction(1, 10)), (20, 0)):
            for bench in (Bench(f"spread {many}\n{TWO}"), Bench(TWO).spread_by(many)):
                for volts in (threshold, threshold + Fraction(1, 1000), Fraction(2), Fraction(3)):
                    self.assert_same(steps(bench, (("b",), ()), firm(volts)), ())
                if threshold:
                    self.assert_same(steps(bench, (("b",), ()), firm(threshold - Fraction(1, 1000))), (("m", "down"),))
                self.assert_same(steps(bench, bench.first, firm(4)), (("m", "up"),))
                self.assert_same(steps(bench, bench.first, firm(Fraction(399, 100))), ())

    def test_lower_thresholds_of_0(self):
        for text in (TWO.replace("down 2", "down 0"), "spread 7\n" + TWO.replace("down 2", "down 0"), "spread 20\n" + TWO):
            for source in (NONE, Source((0, 1), (9, 1)), Source((1, 999999999), (999999999, 1)), WEAK):
                self.assert_same(steps(Bench(text), (("b",), ()), source), ())

    def test_one_range(self):
        for source in (NONE, WEAK, firm(999999999)):
            self.assert_same(steps(Bench("meter m\n  range a load 1 unit 1"), (("a",), ()), source), ())

    def test_ranges_in_the_middle(self):
        bench = Bench("meter m\n  range c load 1 unit 1 up 4\n  range b load 1 unit 1 down 2 up 5\n  range a load 1 unit 1 down 3")
        for volts, ways in ((1, (None, "down", "down")), (2, (None, None, "down")), (3, (None, None, None)),
                            (4, ("up", None, None)), (5, ("up", "up", None))):
            for name, way in zip("cba", ways):
                self.assert_same(steps(bench, ((name,), ()), firm(volts)), (("m", way),) if way else ())

    def test_the_sequence_of_the_meters(self):
        names = ("z", "m", "a")
        bench = Bench("\n".join(TWO.replace("meter m", f"meter {name}") for name in names))
        self.assert_same(steps(bench, (("a", "a", "a"), ()), firm(4)), (("z", "up"), ("m", "up"), ("a", "up")))
        self.assert_same(steps(bench, (("b", "b", "b"), ()), firm(1)), (("z", "down"), ("m", "down"), ("a", "down")))
        self.assert_same(steps(bench, (("a", "b", "a"), ()), firm(4)), (("z", "up"), ("a", "up")))
        self.assert_same(steps(bench, (("a", "b", "b"), ()), firm(1)), (("m", "down"), ("a", "down")))

    def test_loads_that_are_on_count(self):
        bench = Bench(TWO + "\nload lamp 3")
        source = Source((10, 1), (1, 1))
        self.assert_same([steps(bench, (("a",), on), source) for on in ((), ("lamp",))], [(("m", "up"),), ()])
        self.assert_same([steps(bench, (("b",), on), source) for on in ((), ("lamp",))], [(), (("m", "down"),)])

    def test_on_and_beside_each_line_of_drawn_benches(self):
        for bench in drawn_benches(64, 25) + [Bench(PAIR), Bench(LIT)]:
            for source in sources_beside(bench) + [NONE, Source((0, 1), (7, 1)), WEAK]:
                world = world_of(bench, source)
                for setting in bench.settings[::3]:
                    self.assert_same(steps(bench, setting, source), tuple(world.steps(setting)))

    def test_steps_of_drawn_benches(self):
        rng = random.Random(65)
        for bench in drawn_benches(65, 40, most_lines=200, most_settings=100) + [Bench(FULL)]:
            for source in some_sources(rng, 8):
                world = world_of(bench, source)
                for setting in rng.sample(bench.settings, min(6, len(bench.settings))):
                    self.assert_same(steps(bench=bench, setting=setting, source=source), tuple(world.steps(setting)))


class After(Case):

    def test_each_step_that_there_is(self):
        for bench in drawn_benches(66, 20, most_lines=99) + [Bench(PAIR), Bench(LIT), Bench(FULL)]:
            world = world_of(bench, WEAK)
            for setting in bench.settings:
                for step in [(meter, way) for meter in bench.meters for way in ("up", "down")]:
                    wanted = world.after(setting, step)
                    if wanted is None:
                        self.assert_refused(BadStep, step, after, bench, setting, step)
                    else:
                        self.assert_same(after(bench, setting, step), wanted)
                        self.assert_same(after(bench=bench, setting=setting, step=step), wanted)

    def test_steps_that_are_not_possible(self):
        bench = Bench(PAIR + "\nload lamp 1")
        self.assert_same(steps(bench, (("low", "rough"), ("lamp",)), NONE), (("side", "down"),))
        self.assert_same(after(bench, (("low", "rough"), ("lamp",)), ("wide", "up")), (("high", "rough"), ("lamp",)))
        self.assert_same(after(bench, (("high", "fine"), ()), ("wide", "down")), (("low", "fine"), ()))
        # With a lower threshold of 0 it is never possible, but there is a range.
        zero = Bench(TWO.replace("down 2", "down 0"))
        self.assert_same(after(zero, (("b",), ()), ("m", "down")), (("a",), ()))

    def test_there_and_back(self):
        bench = Bench(FULL)
        for setting in bench.settings:
            for meter in bench.meters:
                if range_at(bench, setting, meter)[0] < len(bench[meter]) - 1:
                    up = after(bench, setting, (meter, "up"))
                    self.assert_same(after(bench, up, (meter, "down")), setting)

    def test_what_is_no_step(self):
        for bench in (Bench(PAIR), Bench(LIT), Bench("meter m\n  range a load 1 unit 1")):
            for value in near_steps(bench):
                with self.subTest(value=value):
                    for setting in bench.settings[:3]:
                        self.assert_refused(BadStep, value, after, bench, setting, value)

    def test_no_range_there(self):
        one = Bench("meter m\n  range a load 1 unit 1")
        for step in (("m", "up"), ("m", "down")):
            self.assert_refused(BadStep, step, after, one, one.first, step)
        for ranges, step in ((("low", "fine"), ("wide", "down")), (("high", "fine"), ("wide", "up")), (("low", "fine"), ("side", "down"))):
            self.assert_refused(BadStep, step, after, Bench(PAIR), (ranges, ()), step)


class Turned(Case):

    def test_each_load(self):
        bench = Bench(LIT)
        first = ("low", "fine")
        for on, load, wanted in (
            ((), "z", ("z",)), ((), "b", ("b",)), (("z",), "z", ()), (("b",), "b", ()), (("z",), "b", ("z", "b")),
            (("b",), "z", ("z", "b")), (("z", "b"), "z", ("b",)), (("z", "b"), "b", ("z",)),
        ):
            self.assert_same(turned(bench, (first, on), load), (first, wanted))
            self.assert_same(turned(bench=bench, setting=(first, on), load=load), (first, wanted))

    def test_there_and_back(self):
        for bench in drawn_benches(67, 30, hands=2) + [Bench(LIT), Bench(FULL)]:
            for setting in bench.settings:
                for load in bench.loads:
                    there = turned(bench, setting, load)
                    self.assertIn(there, bench.settings)
                    self.assert_same([there == setting, turned(bench, there, load)], [False, setting])

    def test_no_load(self):
        for bench in (Bench(LIT), Bench(PAIR), Bench(FULL)):
            wrong = [value for value in any_values() if value != "wide"] + [
                "nobody", "", "zz", "Z", "lam", "lamps", "low", "fine", ("z",), ["z"], ("lamp",), bench.loads, bench.meters,
                {"z": 1}, nested(30), ("z", "up"), "z ",
            ]
            for value in wrong:
                with self.subTest(value=value):
                    self.assert_refused(NoLoad, value, turned, bench, bench.first, value)
        self.assert_refused(NoLoad, "wide", turned, Bench(PAIR), Bench(PAIR).first, "wide")


class Walked(Case):

    def setUp(self):
        self.pair = Bench(PAIR)

    def test_rows(self):
        settings = [(("low", "fine"), ()), (("low", "rough"), ()), (("high", "rough"), ()), (("high", "fine"), ())]
        for k in range(9):
            row = (RING + RING)[:k]
            self.assert_same(walked(self.pair, self.pair.first, WEAK, row), settings[k % 4])
            self.assert_same(walked(bench=self.pair, setting=self.pair.first, source=WEAK, row=row), settings[k % 4])
        for setting in self.pair.settings:
            self.assert_same(walked(self.pair, setting, NONE, ()), setting)
        self.assert_same(walked(self.pair, self.pair.first, WEAK, RING * 500), self.pair.first)

    def test_no_tuple(self):
        for value in any_values() + [[], list(RING), RING[0][0], {RING[0]: 1}, None, -1, nested(30)]:
            if type(value) is not tuple:
                self.assert_number(BadSteps, -1, walked, self.pair, self.pair.first, WEAK, value)

    def test_the_index_of_the_first_one_that_fails(self):
        for k in range(7):
            for value in near_steps(self.pair):
                row = (RING + RING)[:k] + (value,)
                self.assert_number(BadSteps, k, walked, self.pair, self.pair.first, WEAK, row)
                self.assert_number(BadSteps, k, walked, self.pair, self.pair.first, WEAK, row + RING)
                self.assert_number(BadSteps, k, walked, self.pair, self.pair.first, WEAK, row + (value, []))

    def test_steps_that_are_not_possible_then(self):
        for k in range(8):
            possible = (RING + RING)[k]
            for step in [(meter, way) for meter in ("wide", "side") for way in ("up", "down")]:
                if step != possible:
                    row = (RING + RING)[:k] + (step,) + RING
                    self.assert_number(BadSteps, k, walked, self.pair, self.pair.first, WEAK, row)

    def test_a_step_out_or_twice(self):
        for k in range(4):
            self.assert_number(BadSteps, k, walked, self.pair, self.pair.first, WEAK, RING[:k] + RING[k + 1:] + RING)
            self.assert_number(BadSteps, k + 1, walked, self.pair, self.pair.first, WEAK, RING[:k + 1] + RING[k:])

    def test_rows_of_rows(self):
        for row in ((RING,), (list(RING[0]),), ((),), (None,), RING[0], (RING[0], list(RING[1]))):
            index = 1 if row[0] == RING[0] else 0
            self.assert_number(BadSteps, index, walked, self.pair, self.pair.first, WEAK, row)

    def test_a_load_is_no_step(self):
        bench = Bench(LIT)
        for value in (("z",), ("z", "up"), "z"):
            self.assert_number(BadSteps, 0, walked, bench, bench.first, WEAK, (value,))

    def test_drawn_rows(self):
        rng = random.Random(68)
        for bench in drawn_benches(68, 40):
            for source in some_sources(rng, 4):
                world, here, row = world_of(bench, source), rng.choice(bench.settings), ()
                start = here
                while world.steps(here) and len(row) < 12:
                    row += (rng.choice(list(world.steps(here))),)
                    here = world.steps(here)[row[-1]]
                    self.assert_same(walked(bench, start, source, row), here)
                wrong = (bench.meters[0], "up" if (bench.meters[0], "down") in world.steps(here) else "down")
                if wrong not in world.steps(here):
                    self.assert_number(BadSteps, len(row), walked, bench, start, source, row + (wrong,))


class Unchanged(Case):

    def test_arguments_stay_as_they_were(self):
        bench, source = Bench(LIT), Source((90, 1), (10, 1))
        before = [bench.text, bench.settings, [bench[meter] for meter in bench.meters], source.volts, source.ohms]
        row = [["b", "up"], {"a": [1]}]
        for _ in range(2):
            found = [
                draw(bench, bench.first), reads(bench, bench.first, source), shown(bench, bench.first, source),
                steps(bench, bench.first, source), after(bench, bench.first, ("b", "up")), turned(bench, bench.first, "z"),
                walked(bench, bench.first, source, ()),
            ]
            self.assert_number(BadSteps, -1, walked, bench, bench.first, source, row)
            self.assert_refused(BadStep, row, after, bench, bench.first, row)
        self.assert_same(found, [
            draw(bench, bench.first), reads(bench, bench.first, source), shown(bench, bench.first, source),
            steps(bench, bench.first, source), after(bench, bench.first, ("b", "up")), turned(bench, bench.first, "z"),
            walked(bench, bench.first, source, ()),
        ])
        self.assert_same(row, [["b", "up"], {"a": [1]}])
        after_all = [bench.text, bench.settings, [bench[meter] for meter in bench.meters], source.volts, source.ohms]
        self.assert_same(after_all, before)


if __name__ == "__main__":
    unittest.main()

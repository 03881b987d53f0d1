"""Section 11: what the figures that were shown say of the source."""

import random
import unittest
from fractions import Fraction

from rangehunt.benches import Bench
from rangehunt.errors import BadLog, BadSetting, NoFit
from rangehunt.logs import (
    between, conditions, contradiction, extent, fits, is_contradiction, ohms_left, shows_fits, source_within,
)
from rangehunt.sources import Source
from rangehunt.stepping import after, reads, shown, turned
from tests.drawn import bent, drawn_benches, source_of
from tests.own_logs import (
    Left, as_told, does_hold, drawn_logs, fitting_sources, is_behind, own_conditions, own_is_log, right_fits,
    right_weights, strayed, walk_log,
)
from tests.tools import FULL, LIT, PAIR, Case, any_values, fraction, near_settings, no_ratios, pair_of
from tests.world import own_draw

WEAK = Source((90, 1), (10, 1))
LOW, HIGH = (("low",), ()), (("high",), ())
# One meter that draws 1 and shows whole volts.
PLAIN = "meter m\n  range a load 1 unit 1"
# Draws of 2 and 4 without steps that ask for much, and one of 0 beside a load.
WIDE = PAIR[:PAIR.index("\nmeter side")]
FREE = "meter m\n  range a load 0 unit 1/2 up 5\n  range b load 2 unit 3 down 1\nload lamp 1\nload z 1/3"


def drawn(seed, many):
    return drawn_benches(seed, many) + drawn_benches(seed + 1, many // 2, hands=2) + [Bench(PAIR), Bench(LIT), Bench(FREE)]


def told_wrong(bench, log):
    """All functions that take a log, with what is passed behind it."""
    return (
        (conditions, ()), (fits, ()), (shows_fits, (("fits", WEAK),)), (shows_fits, (None,)), (extent, ()),
        (between, (bench.first,)), (between, (None,)),
    )


class Examples(Case):

    def test_the_example(self):
        pair = Bench(PAIR)
        log = ((pair.first, (29, 29)), ((("low", "rough"), ()), (42, 4)))
        other = log[:1] + ((log[1][0], (59, 5)),)
        found = [len(conditions(pair, log)), conditions(pair, log)[4], fits(pair, log)[0], fits(pair, other)[0]]
        self.assert_same(found, [9, ((11, 4), (33, 4), "least"), "fits", "never"])
        found = [extent(pair, log), between(pair, log, (("high", "fine"), ()))]
        self.assert_same(found, [
            (((21, 1), False), (1247, 10), ((2, 1), False), (14, 1)), (((1247, 710), False), (21, 11)),
        ])

    def test_by_name(self):
        pair = Bench(PAIR)
        log = ((pair.first, (29, 29)),)
        self.assert_same(conditions(log=log, bench=pair), conditions(pair, log))
        self.assertEqual(fits(log=log, bench=pair), fits(pair, log))
        self.assert_same(shows_fits(value=fits(pair, log), log=log, bench=pair), True)
        self.assert_same(extent(log=log, bench=pair), extent(pair, log))
        self.assert_same(between(setting=pair.first, log=log, bench=pair), between(pair, log, pair.first))


class Conditions(Case):

    def test_all_of_the_example(self):
        pair = Bench(PAIR)
        log = ((pair.first, (29, 29)), ((("low", "rough"), ()), (42, 4)))
        self.assert_same(conditions(pair, log), (
            ((29, 10), (87, 10), "least"), ((3, 1), (9, 1), "below"),
            ((29, 10), (87, 10), "least"), ((3, 1), (9, 1), "below"),
            ((11, 4), (33, 4), "least"),
            ((21, 5), (42, 5), "least"), ((43, 10), (43, 5), "below"),
            ((4, 1), (8, 1), "least"), ((5, 1), (10, 1), "below"),
        ))

    def test_one_sight(self):
        self.assert_same(conditions(Bench(PLAIN), (((("a",), ()), (0,)),)), (((0, 1), (0, 1), "least"), ((1, 1), (1, 1), "below")))
        self.assert_same(conditions(Bench(PLAIN), (((("a",), ()), (999999999,)),)), (
            ((999999999, 1), (999999999, 1), "least"), ((1000000000, 1), (1000000000, 1), "below"),
        ))

    def test_steps_up_and_down(self):
        bench = Bench(WIDE)
        up, down = conditions(bench, ((LOW, (40,)), (HIGH, (3,)))), conditions(bench, ((HIGH, (1,)), (LOW, (15,))))
        self.assert_same(up, (
            ((4, 1), (8, 1), "least"), ((41, 10), (41, 5), "below"), ((4, 1), (8, 1), "least"),
            ((3, 1), (12, 1), "least"), ((4, 1), (16, 1), "below"),
        ))
        self.assert_same(down, (
            ((1, 1), (4, 1), "least"), ((2, 1), (8, 1), "below"), ((2, 1), (8, 1), "below"),
            ((3, 2), (3, 1), "least"), ((8, 5), (16, 5), "below"),
        ))

    def test_lower_thresholds_less_by_the_spread(self):
        log = ((HIGH, (1,)), (LOW, (15,)))
        for many, line in ((1, ((19, 10), (38, 5))), (5, ((3, 2), (6, 1))), (20, ((0, 1), (0, 1)))):
            self.assert_same(conditions(Bench(WIDE).spread_by(many), log)[2], (*line, "below"))

    def test_the_same_sight_again(self):
        sight = (LOW, (40,))
        once = conditions(Bench(WIDE), (sight,))
        self.assert_same(conditions(Bench(WIDE), (sight,) * 12), once * 12)
        # Other figures in the same setting are conditions like others.
        self.assert_same(conditions(Bench(WIDE), (sight, (LOW, (41,)))), once + (((41, 10), (41, 5), "least"), ((21, 5), (42, 5), "below")))

    def test_turned_loads_set_none(self):
        bench = Bench(FREE)
        log = (((("a",), ()), (3,)), ((("a",), ("lamp",)), (2,)), ((("a",), ("lamp", "z")), (1,)), ((("a",), ("z",)), (0,)))
        self.assert_same(conditions(bench, log), (
            ((3, 2), (0, 1), "least"), ((2, 1), (0, 1), "below"), ((1, 1), (1, 1), "least"), ((3, 2), (3, 2), "below"),
            ((1, 2), (2, 3), "least"), ((1, 1), (4, 3), "below"), ((0, 1), (0, 1), "least"), ((1, 2), (1, 6), "below"),
        ))

    def test_a_step_with_loads_on(self):
        bench = Bench(FREE)
        log = (((("a",), ("z",)), (10,)), ((("b",), ("z",)), (1,)))
        self.assert_same(conditions(bench, log)[2], ((5, 1), (5, 3), "least"))
        self.assert_same(conditions(bench, log[::-1])[2], ((1, 1), (7, 3), "below"))

    def test_three_meters_and_more_ranges(self):
        bench = Bench(FULL)
        start = (("lower", "low", "c"), ("wide",))
        log = ((start, (1, 2, 3)), (after(bench, start, ("widest", "up")), (4, 5, 6)))
        found = conditions(bench, log)
        self.assert_same([len(found), found], [13, as_told(own_conditions(bench, log))])
        # The draw is 1/3 + 0 + 9999 + 7.
        self.assert_same(found[6], ((3, 2), (30019, 2), "least"))
        self.assert_same(found[7], ((2, 1), (53, 3), "least"))

    def test_drawn_logs(self):
        rng = random.Random(1101)
        ways = {}
        for bench in drawn(1101, 60):
            for log in drawn_logs(rng, bench, 8):
                for one, other in zip(log, log[1:]):
                    way = is_behind(bench, one[0], other[0])
                    ways[way[0], way[-1]] = ways.get((way[0], way[-1]), 0) + 1
                self.assert_same(conditions(bench, log), as_told(own_conditions(bench, log)))
        self.assertGreater(min(ways["step", "up"], ways["step", "down"], ways["same", "same"], ways["turn", "z"]), 40)

    def test_they_hold_on_the_source_that_was_seen(self):
        rng = random.Random(1103)
        for bench in drawn(1103, 40):
            volts, ohms = Fraction(rng.randrange(90), 3), Fraction(rng.randrange(20), 2)
            source = source_of((volts, ohms))
            log = walk_log(rng, bench, volts, ohms, 12)
            self.assert_same(shows_fits(bench, log, ("fits", source)), True)
            for setting, figures in log:
                self.assert_same(shown(bench, setting, source), figures)
            for u, m, word in conditions(bench, log):
                self.assertEqual(volts >= fraction(u) + fraction(m) * ohms, word == "least")


class NoLogs(Case):

    def assert_no_log(self, bench, value):
        self.assertFalse(own_is_log(bench, value))
        for function, more in told_wrong(bench, value):
            self.assert_refused(BadLog, value, function, bench, value, *more)

    def test_any_values(self):
        pair = Bench(PAIR)
        for value in any_values() + [pair.first, (pair.first,), (pair.first, (1, 1)), ((pair.first,),), pair.settings]:
            self.assert_no_log(pair, value)
            self.assert_refused(BadLog, value, between, bench=pair, log=value, setting=None)

    def test_how_many_sights(self):
        pair = Bench(PAIR)
        sight = (pair.first, (29, 29))
        self.assertEqual(fits(pair, (sight,))[0], "fits")
        self.assertEqual(fits(pair, (sight,) * 12)[0], "fits")
        for wrong in ((), (sight,) * 13, (sight,) * 40, [sight], [sight] * 12, {}, {0: sight}, sight):
            self.assert_no_log(pair, wrong)

    def test_sights_that_are_none(self):
        pair = Bench(PAIR)
        first, figures = pair.first, (29, 29)
        right = (first, figures)
        for wrong in (
            list(right), (first, list(figures)), right + ((),), right + (figures,), right[:1], (figures, first), (right,), (first,) + figures,
            (first, (29,)), (first, ()), (first, (29, 29, 29)), (first, 29), (first, (29, -1)), (first, (-1, 29)), (first, (29, True)),
            (first, (False, 29)), (first, (29, None)), (first, (29, "29")), (first, ((29,), 29)), (first, ((29, 1), (29, 1))), (first, "29"),
            (first, (29, [])), (first, {}), (first, None), (first[0], figures), (None, figures), (list(first), figures), ((first,), figures),
            ((list(first[0]), ()), figures), ((first[0], []), figures), (first + ((),), figures), ((("low", "low"), ()), figures),
            ((("fine", "low"), ()), figures), ((("low",), ()), figures), ((("low", "fine"), ("lamp",)), figures), (), None, WEAK, pair,
        ):
            for log in ((wrong,), (right, wrong), (wrong, right), (right,) * 11 + (wrong,), (right, wrong, right)):
                self.assert_no_log(pair, log)

    def test_all_that_are_no_settings(self):
        for text in (PAIR, LIT):
            bench = Bench(text)
            for wrong in near_settings(bench):
                log = ((wrong, (1, 1)),)
                for function, more in told_wrong(bench, log):
                    self.assert_refused(BadLog, log, function, bench, log, *more)

    def test_settings_that_differ_in_two_places(self):
        for text in (PAIR, LIT, FREE, FULL):
            bench = Bench(text)
            figures = (1,) * len(bench)
            seen = set()
            rng = random.Random(1104)
            for one in rng.sample(bench.settings, min(8, len(bench.settings))):
                for other in bench.settings:
                    log = ((one, figures), (other, figures))
                    if is_behind(bench, one, other):
                        self.assertIn(fits(bench, log)[0], ("fits", "never"))
                    else:
                        self.assert_no_log(bench, log)
                        self.assert_no_log(bench, log[:1] + log)
                    seen.add(bool(is_behind(bench, one, other)))
            self.assertEqual(seen, {True, False})

    def test_ranges_are_not_skipped(self):
        text = "meter m\n  range a load 1 unit 1 up 2\n  range b load 1 unit 1 down 1 up 3\n  range c load 1 unit 1 down 1"
        bench = Bench(text)
        a, b, c = [(((name,), ()), (1,)) for name in "abc"]
        for log in ((a, c), (c, a), (a, b, c, a), (a, a, c), (c, b, c, a)):
            self.assert_no_log(bench, log)
        for log in ((a, b, c), (c, b, a), (a, b, b, b, a), (b, c, b, a)):
            self.assert_same(len(conditions(bench, log)), 2 * len(log) + sum(one != other for one, other in zip(log, log[1:])))

    def test_bent_logs(self):
        rng = random.Random(1105)
        seen = set()
        for bench in drawn(1105, 25):
            for log in drawn_logs(rng, bench, 3):
                others = bench.settings[:2] + (WEAK, 7, (1,), (1, 1))
                for value in bent(rng, log, others, 14):
                    is_log = own_is_log(bench, value)
                    seen.add(is_log)
                    if is_log:
                        self.assert_same(conditions(bench, value), as_told(own_conditions(bench, value)))
                    else:
                        self.assert_no_log(bench, value)
        self.assertEqual(seen, {True, False})

    def test_figures_of_any_size(self):
        # What was told may be handed in again, also changed, however long it is.
        great = 10 ** 300 + 7
        bench, log = Bench(PLAIN), (((("a",), ()), (great,)),)
        source = fits(bench, log)[1]
        self.assert_same(shown(bench, bench.first, source), (great,))
        self.assert_same(between(bench, log, bench.first), (((great, 1), True), (great + 1, 1)))


class Fits(Case):

    def test_words_and_evidence_on_drawn_logs(self):
        rng = random.Random(1106)
        seen = {}
        for bench in drawn(1106, 70):
            for log in drawn_logs(rng, bench, 8):
                told = fits(bench, log)
                left = Left(own_conditions(bench, log))
                self.assert_same(told[0], "fits" if left.pieces else "never")
                self.assert_same([right_fits(bench, log, told), shows_fits(bench, log, told)], [True, True])
                self.assertEqual(fits(bench, log), told)
                key = (told[0], len(told[1]) if told[0] == "never" else 0)
                seen[key] = seen.get(key, 0) + 1
        self.assertGreater(seen["fits", 0], 100)
        self.assertGreater(seen["never", 2], 60)

    def test_contradictions_of_three_and_four_conditions(self):
        rng = random.Random(1107)
        seen = {}
        for bench in drawn(1107, 40):
            for _ in range(30):
                log = walk_log(rng, bench, Fraction(rng.randrange(40, 400), 3), Fraction(rng.randrange(1, 60), 4), 8)
                log = strayed(rng, bench, log)
                told = fits(bench, log)
                self.assert_same([right_fits(bench, log, told), shows_fits(bench, log, told)], [True, True])
                if told[0] == "never":
                    seen[len(told[1])] = seen.get(len(told[1]), 0) + 1
        self.assertGreater(seen.get(2, 0), 5)
        self.assertGreater(seen.get(3, 0), 5)

    def test_contradictions_of_any_conditions(self):
        # More than logs have them: such as need four conditions at once, as they are chosen here.
        rng = random.Random(1117)
        seen = {}
        for _ in range(6000):
            words = ["least", "below"] + [rng.choice(("least", "below")) for _ in range(rng.randrange(1, 7))]
            asked = [(Fraction(rng.randrange(12), rng.choice((1, 2, 3))), Fraction(rng.randrange(12), rng.choice((1, 2, 3))), word) for word in words]
            told, left = as_told(asked), Left(asked)
            self.assertEqual(ohms_left(told) is not None, len(left.pieces) > 0)
            if left.pieces:
                self.assert_same(ohms_left(told), left.ohms())
                source = source_within(told, ohms_left(told))
                self.assertTrue(does_hold(asked, fraction(source.volts), fraction(source.ohms)))
            else:
                rows = contradiction(told)
                self.assert_same([right_weights(asked, rows), is_contradiction(told, rows)], [True, True])
                seen[len(rows)] = seen.get(len(rows), 0) + 1
        self.assertGreater(min(seen[2], seen[3], seen[4]), 5)

    def test_contradictions_by_hand(self):
        wide, free = Bench(WIDE), Bench(FREE)
        a, lit = (("a",), ()), (("a",), ("lamp",))
        cases = (
            # Other figures in the same setting: at just the same volts, and far off.
            (wide, ((LOW, (40,)), (LOW, (41,)))), (wide, ((LOW, (40,)), (LOW, (90,)))), (wide, ((LOW, (41,)), (LOW, (40,)))),
            # A step that was not possible then, at just the threshold.
            (wide, ((LOW, (39,)), (HIGH, (1,)))), (wide, ((HIGH, (2,)), (LOW, (25,)))),
            # More is read with a load on.
            (free, ((a, (3,)), (lit, (4,)))), (free, ((a, (3,)), (lit, (9,)), (a, (3,)))),
            # A step down that is never possible: nothing reads less than 0.
            (wide.spread_by(20), ((HIGH, (0,)), (LOW, (0,)))),
        )
        for bench, log in cases:
            told = fits(bench, log)
            self.assert_same([told[0], right_fits(bench, log, told), shows_fits(bench, log, told)], ["never", True, True])
            self.assert_refused(NoFit, log, extent, bench, log)

    def test_just_no_contradiction(self):
        wide, free = Bench(WIDE), Bench(FREE)
        a, lit = (("a",), ()), (("a",), ("lamp",))
        for bench, log in ((wide, ((LOW, (40,)), (HIGH, (2,)))), (wide, ((HIGH, (1,)), (LOW, (15,)))), (free, ((a, (3,)), (lit, (3,)))),
                           (wide.spread_by(19), ((HIGH, (0,)), (LOW, (0,))))):
            self.assert_same(fits(bench, log)[0], "fits")

    def test_a_source_of_0_volts(self):
        bench = Bench(FREE)
        log = (((("a",), ()), (0,)),)
        self.assert_same(fits(bench, log)[0], "fits")
        for source, wanted in ((Source((0, 1), (0, 1)), True), (Source((0, 1), (99, 7)), True), (Source((1, 2), (0, 1)), False),
                               (Source((499999999, 999999999), (5, 1)), True), (Source((1, 2), (5, 1)), False)):
            self.assert_same(shows_fits(bench, log, ("fits", source)), wanted)


class ShowsFits(Case):

    def test_other_sources_that_fit(self):
        rng = random.Random(1108)
        seen = {}
        for bench in drawn(1108, 40):
            for log in drawn_logs(rng, bench, 4):
                asked = own_conditions(bench, log)
                told = fits(bench, log)
                some = fitting_sources(rng, asked, 6) if told[0] == "fits" else [WEAK]
                for source in some:
                    self.assert_same(shows_fits(bench, log, ("fits", source)), told[0] == "fits")
                for source in some:
                    for near in (
                        Source(source.volts, (source.ohms[0] + source.ohms[1], source.ohms[1])), Source((0, 1), source.ohms),
                        source + source, 2 * source, source.under((1, 2)), Source(source.volts, (0, 1)), WEAK,
                    ):
                        wanted = right_fits(bench, log, ("fits", near))
                        seen[wanted] = seen.get(wanted, 0) + 1
                        self.assert_same(shows_fits(bench, log, ("fits", near)), wanted)
        self.assertGreater(min(seen[True], seen[False]), 100)

    def test_sources_at_the_very_bounds(self):
        bench, log = Bench(PLAIN), (((("a",), ()), (3,)),)
        for ohms in (0, 1, 7, Fraction(2, 3)):
            for volts, wanted in ((3, True), (4, False), (Fraction(3999, 1000), True), (Fraction(2999, 1000), False)):
                source = source_of((Fraction(volts) * (1 + ohms), Fraction(ohms)))
                self.assert_same(shows_fits(bench, log, ("fits", source)), wanted)

    def never(self):
        """(bench, log, told) with conditions that contradict each other."""
        rng = random.Random(1109)
        found = []
        for bench in drawn(1109, 30):
            for log in drawn_logs(rng, bench, 6):
                told = fits(bench, log)
                if told[0] == "never":
                    found.append((bench, log, told[1]))
        return found

    def test_weights_of_other_sizes(self):
        for bench, log, rows in self.never():
            for up, by in ((2, 1), (1, 2), (7, 3), (10 ** 40, 1), (1, 10 ** 40 + 1)):
                scaled = tuple((at, pair_of(fraction(weight) * Fraction(up, by))) for at, weight in rows)
                self.assert_same([shows_fits(bench, log, ("never", scaled)), right_fits(bench, log, ("never", scaled))], [True, True])
            for k, (at, weight) in enumerate(rows):
                for other in (pair_of(2 * fraction(weight)), (1, 3), (weight[0] + 10 ** 9, 1), (1, 10 ** 30)):
                    changed = ("never", rows[:k] + ((at, other),) + rows[k + 1:])
                    self.assert_same(shows_fits(bench, log, changed), right_fits(bench, log, changed))
                for wrong in no_ratios() + [(0, 1), (2 * weight[0], 2 * weight[1])]:
                    changed = ("never", rows[:k] + ((at, wrong),) + rows[k + 1:])
                    self.assert_same(shows_fits(bench, log, changed), False)

    def test_conditions_left_out_twice_or_in_another_sequence(self):
        for bench, log, rows in self.never():
            many = len(conditions(bench, log))
            for wrong in (
                rows[::-1], rows[:1] + rows, rows + rows, rows + rows[-1:], list(rows), (), None, {}, (rows,), [list(row) for row in rows],
                tuple(list(row) for row in rows), tuple(row[::-1] for row in rows), tuple(row[0] for row in rows), dict(rows),
                tuple((at,) for at, _ in rows), tuple(row + (1,) for row in rows), rows + ((many, (1, 1)),), ((-1, (1, 1)),) + rows,
                ((True, (1, 1)),) + rows[1:], ((False, (1, 1)),) + rows[1:], tuple((str(at), weight) for at, weight in rows),
                tuple((at - many, weight) for at, weight in rows), tuple((at, weight[0]) for at, weight in rows),
            ):
                self.assert_same(shows_fits(bench, log, ("never", wrong)), False)
            for k in range(len(rows)):
                changed = ("never", rows[:k] + rows[k + 1:])
                self.assert_same(shows_fits(bench, log, changed), right_fits(bench, log, changed))

    def test_further_conditions_beside_them(self):
        rng = random.Random(1110)
        seen = set()
        for bench, log, rows in self.never():
            many = len(conditions(bench, log))
            for _ in range(12):
                some = dict(rows)
                for at in rng.sample(range(many), min(many, rng.choice((1, 1, 2)))):
                    some[at] = rng.choice(((1, 1), (1, 10 ** 6), (10 ** 6, 1), (3, 7)))
                changed = ("never", tuple(sorted(some.items())))
                wanted = right_fits(bench, log, changed)
                seen.add(wanted)
                self.assert_same(shows_fits(bench, log, changed), wanted)
        self.assertEqual(seen, {True, False})

    def test_sums_at_0(self):
        # On 4 volts and more, and below 4 volts: what stands by itself is 0.
        bench, log = Bench("meter m\n  range a load 0 unit 1"), (((("a",), ()), (3,)), ((("a",), ()), (4,)))
        self.assert_same(conditions(bench, log), tuple(((n, 1), (0, 1), word) for n, word in ((3, "least"), (4, "below"), (4, "least"), (5, "below"))))
        for rows, wanted in (
            (((1, (1, 1)), (2, (1, 1))), True), (((1, (5, 3)), (2, (5, 3))), True), (((1, (2, 1)), (2, (1, 1))), False),
            (((1, (1, 1)), (2, (2, 1))), False), (((0, (1, 1)), (1, (1, 1))), False), (((2, (1, 1)), (3, (1, 1))), False),
            (((0, (1, 1)), (1, (5, 1)), (2, (4, 1))), False), (((0, (1, 1)), (1, (5, 1)), (2, (4, 1)), (3, (1, 1))), False),
            (((2, (1, 1)),), False), (((1, (1, 1)),), False), ((), False),
        ):
            self.assert_same([shows_fits(bench, log, ("never", rows)), right_fits(bench, log, ("never", rows))], [wanted, wanted])

    def test_volts_and_ohms_below_0_are_none(self):
        # A step down below 0 volts alone is a contradiction, as no volts are below 0.
        bench = Bench(WIDE).spread_by(20)
        log = ((HIGH, (1,)), (LOW, (0,)))
        asked = conditions(bench, log)
        self.assert_same(asked[2], ((0, 1), (0, 1), "below"))
        for rows, wanted in ((((2, (1, 1)),), True), (((0, (1, 1)), (2, (1, 1))), True), (((0, (1, 1)),), False), (((1, (1, 1)),), False),
                             (((0, (2, 1)), (2, (1, 1))), False)):
            self.assert_same([shows_fits(bench, log, ("never", rows)), right_fits(bench, log, ("never", rows))], [wanted, wanted])
        # Less is left at the ohms, as no ohms are below 0.
        log = ((HIGH, (9,)), (LOW, (0,)))
        for text in (WIDE, WIDE.replace("load 4", "load 3")):
            told = fits(Bench(text), log)
            self.assert_same([told[0], right_fits(Bench(text), log, told)], ["never", True])

    def test_other_values(self):
        bench = Bench(WIDE)
        for log in (((LOW, (40,)),), ((LOW, (40,)), (LOW, (41,)))):
            told = fits(bench, log)
            for wrong in any_values() + [list(told), told + ((),), told[:1], told[1:], told[::-1], (told,), told[0], told + told]:
                found = [shows_fits(bench, log, some) for some in (wrong, ("fits", wrong), ("never", wrong))]
                self.assert_same(found, [False, right_fits(bench, log, ("fits", wrong)), False])
            for word in ("fit", "fits ", "Fits", "", "never ", None, True, 0, ("fits",), ["fits"]):
                self.assert_same(shows_fits(bench, log, (word,) + told[1:]), False)
            for source in (((90, 1), (10, 1)), (WEAK,), [WEAK], None):
                self.assert_same(shows_fits(bench, log, ("fits", source)), False)

    def test_words_of_the_other_one(self):
        rng = random.Random(1111)
        for bench in drawn(1111, 20):
            for log in drawn_logs(rng, bench, 4):
                word = fits(bench, log)[0]
                for value in [("fits", source_of((Fraction(rng.randrange(99), 4), Fraction(rng.randrange(9), 2)))) for _ in range(4)]:
                    self.assert_same(shows_fits(bench, log, value), right_fits(bench, log, value))
                    self.assertFalse(word == "never" and shows_fits(bench, log, value))
                for rows in [((0, (1, 1)), (1, (1, 1))), ((1, (1, 1)), (2, (1, 1))), ((1, (1, 1)),)]:
                    wanted = right_fits(bench, log, ("never", rows))
                    self.assert_same(shows_fits(bench, log, ("never", rows)), wanted)
                    self.assertFalse(word == "fits" and wanted)

    def test_bent_values(self):
        rng = random.Random(1112)
        seen = {}
        for bench in drawn(1112, 40):
            for log in drawn_logs(rng, bench, 4):
                told = fits(bench, log)
                others = (WEAK, Source((3, 1), (0, 1)), (1, 1), (2, 3), 1, 2, 3)
                for value in bent(rng, told, others, 16):
                    wanted = right_fits(bench, log, value)
                    seen[told[0], wanted] = seen.get((told[0], wanted), 0) + 1
                    with self.subTest(text=bench.text, log=log, value=value):
                        self.assert_same(shows_fits(bench, log, value), wanted)
        self.assertGreater(min(seen[word, is_right] for word in ("fits", "never") for is_right in (True, False)), 4)


class Bounds(Case):

    def test_extent_on_drawn_logs(self):
        rng = random.Random(1113)
        seen = {}
        for bench in drawn(1113, 80):
            for log in drawn_logs(rng, bench, 6):
                left = Left(own_conditions(bench, log))
                if not left.pieces:
                    self.assert_refused(NoFit, log, extent, bench, log)
                    continue
                told = extent(bench, log)
                self.assert_same(told, (*left.reading(0), *left.ohms()))
                for key in zip(("least", "most", "low", "high"), (told[0][1], told[1] == (), told[2][1], told[3] == ())):
                    seen[key] = seen.get(key, 0) + 1
        for part in ("least", "most", "low", "high"):
            self.assertGreater(min(seen.get((part, True), 0), seen.get((part, False), 0)), 20)

    def test_between_on_drawn_logs(self):
        rng = random.Random(1114)
        seen = {}
        for bench in drawn(1114, 60):
            for log in drawn_logs(rng, bench, 4):
                left = Left(own_conditions(bench, log))
                for setting in bench.settings[::2] + (log[-1][0],):
                    if left.pieces:
                        told = between(bench, log, setting)
                        self.assert_same(told, left.reading(own_draw(bench, setting)))
                        key = (told[0][1], told[1] == ())
                        seen[key] = seen.get(key, 0) + 1
                    else:
                        self.assert_refused(NoFit, log, between, bench, log, setting)
        self.assertGreater(min(seen[key] for key in ((True, False), (False, False), (True, True))), 20)

    def test_sources_that_fit_are_within(self):
        rng = random.Random(1115)
        for bench in drawn(1115, 30):
            for log in drawn_logs(rng, bench, 4):
                asked = own_conditions(bench, log)
                if Left(asked).pieces:
                    (least, _), most, (low, _), high = extent(bench, log)
                    for source in fitting_sources(rng, asked, 8):
                        self.assertGreaterEqual((fraction(source.volts), fraction(source.ohms)), (fraction(least), Fraction(0)))
                        self.assertGreaterEqual(fraction(source.ohms), fraction(low))
                        self.assertTrue(most == () or fraction(source.volts) < fraction(most))
                        self.assertTrue(high == () or fraction(source.ohms) < fraction(high))
                        setting = rng.choice(bench.settings)
                        lower, upper = between(bench, log, setting)
                        read = fraction(reads(bench, setting, source))
                        self.assertTrue(read > fraction(lower[0]) or (read == fraction(lower[0]) and lower[1]))
                        self.assertTrue(upper == () or read < fraction(upper))

    def test_the_setting_that_was_seen(self):
        # There the bounds are those of the figure, if nothing else was seen.
        bench = Bench(WIDE)
        for figure in (0, 1, 39, 40):
            log = ((LOW, (figure,)),)
            least, most = pair_of(Fraction(figure, 10)), pair_of(Fraction(figure + 1, 10))
            self.assert_same(between(bench, log, LOW), ((least, True), most))
            self.assert_same(extent(bench, log), ((least, True), (), ((0, 1), True), ()))

    def test_a_setting_without_a_load(self):
        bench = Bench(FREE)
        a, lit, b = (("a",), ()), (("a",), ("lamp",)), (("b",), ())
        log = ((a, (3,)),)
        self.assert_same(extent(bench, log), (((3, 2), True), (2, 1), ((0, 1), True), ()))
        # With ever more ohms a load takes it all.
        self.assert_same([between(bench, log, a), between(bench, log, lit)], [(((3, 2), True), (2, 1)), (((0, 1), False), (2, 1))])
        self.assert_same(between(bench, log, b), (((0, 1), False), (2, 1)))
        both = log + ((lit, (1,)),)
        # 3/2 to 2 volts, and of these 1/2 to 1 beside a load of 1.
        self.assert_same(extent(bench, both), (((3, 2), True), (2, 1), ((1, 2), False), (3, 1)))
        self.assert_same(between(bench, both, lit), (((1, 2), True), (1, 1)))
        self.assert_same(between(bench, both, a), (((3, 2), True), (2, 1)))

    def test_bounds_that_are_taken_or_not(self):
        bench = Bench(FREE)
        a, lit = (("a",), ()), (("a",), ("lamp",))
        # 1 volt or more, and as much with the load on: 0 ohms are left, and a little more.
        log = ((a, (2,)), (lit, (2,)))
        self.assert_same(extent(bench, log), (((1, 1), True), (3, 2), ((0, 1), True), (1, 2)))
        # Less with the load on: 0 ohms are not left, nor the least volts with it on.
        log = ((lit, (1,)), (a, (2,)))
        self.assert_same(extent(bench, log), (((1, 1), True), (3, 2), ((0, 1), False), (2, 1)))
        self.assert_same(between(bench, log, lit), (((1, 2), True), (1, 1)))
        # Volts that would just be reached with ohms that are not left.
        log = ((lit, (2,)), (lit, (2,)), (a, (3,)))
        self.assert_same(extent(bench, log), (((3, 2), True), (2, 1), ((0, 1), False), (1, 1)))
        wide = Bench(WIDE)
        log = ((LOW, (40,)), (HIGH, (3,)))
        # Just 4 volts at 0 ohms would show 4 in high: some ohms are there, and fewer than 11/38, where 3 + 12 * ohms is 41/10 + 41/5 * ohms.
        self.assert_same(extent(wide, log), (((4, 1), False), (123, 19), ((0, 1), False), (11, 38)))

    def test_without_figures_above_0(self):
        bench = Bench(PLAIN)
        log = (((("a",), ()), (0,)),)
        self.assert_same(extent(bench, log), (((0, 1), True), (), ((0, 1), True), ()))
        self.assert_same(between(bench, log, bench.first), (((0, 1), True), (1, 1)))

    def test_wrong_settings_behind_logs_that_no_source_fits(self):
        bench = Bench(WIDE)
        fitting, never = ((LOW, (40,)),), ((LOW, (40,)), (LOW, (41,)))
        for wrong in near_settings(bench):
            self.assert_refused(BadSetting, wrong, between, bench, fitting, wrong)
            self.assert_refused(NoFit, never, between, bench, never, wrong)
            self.assert_refused(BadLog, (), between, bench, (), wrong)
        self.assert_refused(NoFit, never, between, bench, never, LOW)
        self.assert_refused(NoFit, never, between, bench=bench, log=never, setting=LOW)


class Unchanged(Case):

    def test_equal_calls_and_arguments(self):
        rng = random.Random(1116)
        for bench in drawn(1116, 10):
            text = bench.text
            for log in drawn_logs(rng, bench, 4):
                kept = tuple(log)
                for _ in range(2):
                    self.assertEqual(fits(bench, log), fits(Bench(text), kept))
                    self.assert_same(conditions(bench, log), conditions(Bench(text), kept))
                self.assert_same([log, bench.text], [kept, text])

    def test_turned_loads_are_behind_each_other(self):
        bench = Bench(LIT)
        here = bench.first
        log = [(here, (0, 0))]
        for load in ("z", "b", "z", "b"):
            here = turned(bench, here, load)
            log.append((here, (0, 0)))
        self.assert_same(len(conditions(bench, tuple(log))), 20)


if __name__ == "__main__":
    unittest.main()

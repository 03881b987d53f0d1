"""Section 10: the least spread with which nothing hunts."""

import random
import unittest

from rangehunt.always import calm, shows_calm
from rangehunt.benches import Bench
from rangehunt.classes import classes
from rangehunt.errors import BadSetting, TooMany
from rangehunt.sources import Source
from rangehunt.spreading import least_spread, shows_spread
from tests.drawn import bent, drawn_benches, source_of
from tests.tools import CROWDED, LIT, MORE, PAIR, Case, any_values, is_same, near_settings
from tests.world import class_of, own_points, right_calm, world_of

WEAK = Source((90, 1), (10, 1))
ALONE = PAIR[:PAIR.index("\nmeter side")]
# Without a spread it has 266 classes and is calm from its first setting; with 1 it has more than 400.
ODD_ONE = "\n".join((
    "meter a",
    "  range low load 5 unit 1 up 3",
    "  range lo load 1 unit 5 down 2 up 4",
    "  range b load 2 unit 1/10 down 2",
    "meter ab",
    "  range low load 11 unit 1/10 up 2",
    "  range lo load 11 unit 2/3 down 0 up 3",
    "  range b load 11 unit 1 down 3 up 12",
    "  range lower load 1 unit 2/3 down 6",
    "load a 5",
    "load z 1",
))


def drawn(seed, many):
    """Benches of which some hunt without a spread."""
    return drawn_benches(seed, many, slope=1) + drawn_benches(seed + 1, many // 2) + [Bench(PAIR), Bench(ALONE)]


def own_hunts(bench, setting):
    """Whether the meters can hunt on a source of some class."""
    return any(world_of(bench, source_of(points[-1])).can_hunt(setting) for points in own_points(bench).values())


def own_least(bench, setting):
    return next(many for many in range(21) if not own_hunts(bench.spread_by(many), setting))


def right_spread(bench, setting, value):
    """Whether this is right as what least_spread tells."""
    if type(value) is not tuple or len(value) != 4 or not is_same(value[:2], ("least", own_least(bench, setting))):
        return False
    if not right_calm(bench.spread_by(value[1]), setting, ("calm", value[2])):
        return False
    if value[1] == 0:
        return is_same(value[3], ())
    if type(value[3]) is not tuple or len(value[3]) != 4:
        return False
    return right_calm(bench.spread_by(value[1] - 1), setting, value[3])


class Least(Case):

    def test_the_example(self):
        pair = Bench(PAIR)
        self.assert_same([least_spread(some, some.first)[1] for some in (pair, pair.without("side"))], [4, 0])

    def test_what_is_told_of_the_example(self):
        pair = Bench(PAIR)
        told = least_spread(bench=pair, setting=pair.first)
        self.assert_same([len(told), told[:2]], [4, ("least", 4)])
        self.assert_same([shows_calm(pair.spread_by(4), pair.first, ("calm", told[2])), len(told[2])], [True, 14])
        self.assert_same([shows_calm(pair.spread_by(3), pair.first, told[3]), told[3][0]], [True, "hunts"])
        told = least_spread(pair.without("side"), (("low",), ()))
        self.assert_same([len(told), told[:2], told[3]], [4, ("least", 0), ()])

    def test_against_calm_from_0_on(self):
        seen = set()
        for bench in drawn(1001, 40):
            for setting in bench.settings[::5]:
                told = least_spread(bench, setting)
                words = [calm(bench.spread_by(many), setting)[0] for many in range(21)]
                self.assert_same([told[0], told[1]], ["least", words.index("calm")])
                # (g): what is calm is calm with a greater spread.
                self.assertEqual(words, ["hunts"] * told[1] + ["calm"] * (21 - told[1]))
                self.assert_same(told[1], own_least(bench, setting))
                self.assert_same([right_spread(bench, setting, told), shows_spread(bench, setting, told)], [True, True])
                self.assertEqual(least_spread(bench, setting), told)
                seen.add(told[1])
        self.assertGreater(len(seen), 8)
        self.assertIn(0, seen)

    def test_all_that_it_may_take(self):
        # The lower threshold has to be below any that is told: with 20 nothing ever goes down.
        text = "meter m\n  range a load 0 unit 1 up 1\n  range b load 9999 unit 1 down 1"
        bench = Bench(text)
        told = least_spread(bench, bench.first)
        self.assert_same([told[:2], told[3][0]], [("least", 20), "hunts"])
        self.assert_same([shows_spread(bench, bench.first, told), right_spread(bench, bench.first, told)], [True, True])
        # From high, which nothing leaves with 20, and which is left for low with less.
        self.assert_same(least_spread(bench, (("b",), ()))[1], 20)

    def test_the_own_spread_does_not_matter(self):
        for bench in drawn(1003, 12):
            told = [least_spread(bench.spread_by(many), bench.first) for many in (0, 1, 7, 20)]
            for other in told[1:]:
                self.assertEqual(other, told[0])
            for many in (0, 4, 20):
                self.assert_same(shows_spread(bench.spread_by(many), bench.first, told[0]), True)

    def test_by_steps_of_one_twentieth(self):
        # It hunts from low to high and back if some source reads 4 in low and less than D in high.
        for down, least in (("2", 0), ("21/10", 1), ("11/5", 2), ("5/2", 4), ("4", 10)):
            bench = Bench(ALONE.replace("down 2", f"down {down}"))
            self.assert_same(least_spread(bench, bench.first)[1], least)


# With just 19 it has more than 400 classes.
NINETEEN = "\n".join((
    "meter abc",
    "  range low load 1/9999 unit 2/3 up 9998/9999",
    "  range lo load 9999 unit 5 down 5/7 up 17",
    "  range b load 1/9999 unit 1/10 down 9998/9999 up 9999",
    "  range lower load 0 unit 5 down 9999",
    "meter a",
    "  range low load 1/9999 unit 1 up 9998/9999",
    "  range lo load 0 unit 1 down 5/7 up 1",
    "  range b load 9999 unit 5 down 5/7 up 17",
    "  range lower load 9999 unit 1 down 17",
    "load z 0",
    "load a 7/3",
))


class TooManyClasses(Case):

    def test_where_just_one_spread_has_too_many(self):
        bench = Bench(NINETEEN)
        for many in range(21):
            if many == 19:
                self.assert_number(TooMany, 400, classes, bench.spread_by(many))
            else:
                self.assertLessEqual(classes(bench.spread_by(many)), 400)
        self.assert_number(TooMany, 400, least_spread, bench, bench.first)
        self.assert_number(TooMany, 400, shows_spread, bench, bench.first, None)

    def test_where_some_spread_has_too_many(self):
        bench = Bench(ODD_ONE)
        self.assert_same([classes(bench), calm(bench, bench.first)[0]], [266, "calm"])
        self.assert_number(TooMany, 400, classes, bench.spread_by(1))
        rows = calm(bench, bench.first)[1]
        for setting in bench.settings[::5]:
            for many in (0, 12, 20):
                self.assert_number(TooMany, 400, least_spread, bench.spread_by(many), setting)
                for value in (("least", 0, rows, ()), None, (), ("least", 0, (), ())):
                    self.assert_number(TooMany, 400, shows_spread, bench.spread_by(many), setting, value)

    def test_where_only_great_spreads_have_few(self):
        for bench in (Bench(MORE), Bench(MORE).spread_by(20), Bench(CROWDED)):
            self.assert_number(TooMany, 400, least_spread, bench, bench.first)
            for value in any_values() + [("least", 20, (), ())]:
                self.assert_number(TooMany, 400, shows_spread, bench, bench.first, value)

    def test_behind_wrong_settings(self):
        for bench in (Bench(PAIR), Bench(LIT), Bench(ODD_ONE), Bench(MORE)):
            for wrong in near_settings(bench):
                self.assert_refused(BadSetting, wrong, least_spread, bench, wrong)
                self.assert_refused(BadSetting, wrong, shows_spread, bench, wrong, None)
                self.assert_refused(BadSetting, wrong, shows_spread, value=("least", 0, (), ()), setting=wrong, bench=bench)


class Shows(Case):

    def test_other_right_values(self):
        rng = random.Random(1005)
        for bench in drawn(1005, 20):
            setting = rng.choice(bench.settings)
            told = least_spread(bench, setting)
            some = bench.spread_by(told[1])
            points = own_points(some)
            rows = [(source_of(rng.choice(points[class_of(some, row[0])])), row[1]) for row in told[2]]
            rng.shuffle(rows)
            self.assert_same(shows_spread(bench, setting, told[:2] + (tuple(rows),) + told[3:]), True)
            self.assert_same(shows_spread(value=told, setting=setting, bench=bench), True)
            if told[1]:
                word, source, row, ring = told[3]
                self.assert_same(shows_spread(bench, setting, told[:3] + ((word, source, row, ring + ring),)), True)
                self.assert_same(shows_spread(bench, setting, told[:3] + ((word, source, row + ring, ring),)), True)

    def test_other_numbers(self):
        seen = 0
        for bench in drawn(1007, 5):
            told = least_spread(bench, bench.first)
            for many in range(-1, 23):
                if many != told[1]:
                    value = ("least", many) + told[2:]
                    self.assert_same(shows_spread(bench, bench.first, value), False)
                    if 0 <= many <= 20:
                        # What calm really tells of these spreads.
                        rows = calm(bench.spread_by(many), bench.first)
                        hunt = calm(bench.spread_by(many - 1), bench.first) if many else ()
                        value = ("least", many, rows[1], hunt)
                        self.assert_same(shows_spread(bench, bench.first, value), False)
                        self.assert_same(shows_spread(bench, bench.first, ("least", many, rows[1], ())), False)
                        self.assert_same(shows_spread(bench, bench.first, ("least", many, rows[1], told[3])), False)
                        seen += 1
            for wrong in (str(told[1]), (told[1],), [told[1]], None, told[1] == 1, told[1] == 0, (told[1], 1), {}):
                self.assert_same(shows_spread(bench, bench.first, ("least", wrong) + told[2:]), False)
        self.assertGreater(seen, 100)

    def test_true_is_not_1(self):
        # Of this bench the least is 1.
        bench = Bench(ALONE.replace("down 2", "down 21/10"))
        told = least_spread(bench, bench.first)
        self.assert_same(told[1], 1)
        self.assert_same(shows_spread(bench, bench.first, ("least", True) + told[2:]), False)
        told = least_spread(Bench(ALONE), bench.first)
        self.assert_same([told[1], shows_spread(Bench(ALONE), bench.first, ("least", False) + told[2:])], [0, False])

    def test_hunts_that_are_none(self):
        pair = Bench(PAIR)
        told = least_spread(pair, pair.first)
        calm_one, hunt = calm(pair.spread_by(4), pair.first), told[3]
        for wrong in ((), None, False, [], list(hunt), hunt[:3], hunt + ((),), hunt[1:], calm_one, ("calm",) + hunt[1:], (hunt,), WEAK,
                      ("hunts", Source((0, 1), (0, 1))) + hunt[2:], hunt[:2] + ((), ()), calm(pair.spread_by(0), pair.first)[:3] + ((),)):
            self.assert_same(shows_spread(pair, pair.first, told[:3] + (wrong,)), False)
        # A hunt of a lesser spread: on its source nothing may hunt with the spread ahead of the least.
        for many in range(4):
            other = calm(pair.spread_by(many), pair.first)
            value = told[:3] + (other,)
            self.assert_same(shows_spread(pair, pair.first, value), right_spread(pair, pair.first, value))
        told = least_spread(Bench(ALONE), (("low",), ()))
        for wrong in (None, False, 0, [], {}, ((),), hunt, "", ("hunts",)):
            self.assert_same(shows_spread(Bench(ALONE), (("low",), ()), told[:3] + (wrong,)), False)

    def test_rows_of_another_spread(self):
        pair = Bench(PAIR)
        told = least_spread(pair, pair.first)
        for many in (5, 8, 20):
            value = told[:2] + (calm(pair.spread_by(many), pair.first)[1],) + told[3:]
            self.assert_same(shows_spread(pair, pair.first, value), right_spread(pair, pair.first, value))
        self.assert_same(shows_spread(pair, pair.first, told[:2] + (calm(pair.spread_by(20), pair.first)[1],) + told[3:]), False)

    def test_other_values(self):
        for text in (PAIR, ALONE):
            bench = Bench(text)
            told = least_spread(bench, bench.first)
            for wrong in any_values():
                self.assert_same(shows_spread(bench, bench.first, wrong), False)
                self.assert_same(shows_spread(bench, bench.first, told[:2] + (wrong,) + told[3:]), False)
            for wrong in (list(told), told[1:], told[:3], told + ((),), (told,), told[::-1], told[2], told[3]):
                self.assert_same(shows_spread(bench, bench.first, wrong), False)
            for wrong in (list(told[2]), told[2][1:], told[2] + told[2], told[2] + told[2][:1], (told[2],), told[3], [], None):
                self.assert_same(shows_spread(bench, bench.first, told[:2] + (wrong,) + told[3:]), False)
            for word in ("last", "Least", "", "calm", None, 0, True, ("least",)):
                self.assert_same(shows_spread(bench, bench.first, (word,) + told[1:]), False)

    def test_values_of_other_settings_and_benches(self):
        for bench in drawn(1009, 8):
            for setting in bench.settings[::3]:
                told = least_spread(bench, setting)
                for other in bench.settings[::2]:
                    self.assert_same(shows_spread(bench, other, told), right_spread(bench, other, told))

    def test_bent_values(self):
        rng = random.Random(1011)
        seen = {}
        for bench in drawn(1011, 14):
            points = list(own_points(bench).values())
            others = tuple(source_of(rng.choice(rng.choice(points))) for _ in range(4)) + bench.settings[:2] + (0, 1, 2, 3)
            setting = rng.choice(bench.settings)
            told = least_spread(bench, setting)
            for value in bent(rng, told, others, 24):
                wanted = right_spread(bench, setting, value)
                seen[told[1] == 0, wanted] = seen.get((told[1] == 0, wanted), 0) + 1
                with self.subTest(text=bench.text, setting=setting, value=value):
                    self.assert_same(shows_spread(bench, setting, value), wanted)
        self.assertGreater(min(seen[is_0, is_right] for is_0 in (True, False) for is_right in (True, False)), 2)


if __name__ == "__main__":
    unittest.main()

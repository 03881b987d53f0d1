"""BadSetting with the very value, for each function that takes a setting, and
ahead of all that is wrong beside it."""

import unittest

from rangehunt.always import alone, calm, comes, keeps, shows_alone, shows_calm, shows_comes, shows_keeps
from rangehunt.benches import Bench
from rangehunt.errors import BadSetting
from rangehunt.resting import reached, rests, ring, shows_ring
from rangehunt.sources import Source
from rangehunt.stepping import after, draw, reads, shown, steps, turned, walked
from tests.tools import CROWDED, FULL, LIT, MORE, PAIR, Case, near_settings, nested

WEAK = Source((90, 1), (10, 1))

# Each function with what it is passed behind bench and setting: right and wrong ones.
CALLS = (
    (draw, ()), (reads, (WEAK,)), (shown, (WEAK,)), (steps, (WEAK,)),
    (after, (("b", "up"),)), (after, (None,)), (after, (("nobody", "up"),)),
    (turned, ("z",)), (turned, ("nobody",)), (turned, (None,)),
    (walked, (WEAK, ())), (walked, (WEAK, None)), (walked, (WEAK, (("nobody", "up"),))),
    (reached, (WEAK,)), (rests, (WEAK,)), (ring, (WEAK,)), (shows_ring, (WEAK, ("calm", ()))), (shows_ring, (WEAK, None)),
    (calm, ()), (shows_calm, (("calm", ()),)), (shows_calm, (None,)), (alone, ()), (shows_alone, (("one", ()),)),
    (shows_alone, ([],)), (keeps, ()), (shows_keeps, (("keeps", ()),)), (shows_keeps, (0,)),
    (comes, ((("low", "fine"), ()),)), (comes, (None,)), (comes, ([],)), (shows_comes, (None, ("never", ()))),
    (shows_comes, ((("low", "fine"), ()), None)),
)


class Refused(Case):

    def assert_all_refused(self, bench):
        for value in near_settings(bench):
            for function, more in CALLS:
                with self.subTest(function=function.__name__, value=value):
                    self.assert_refused(BadSetting, value, function, bench, value, *more)

    def test_two_meters(self):
        self.assert_all_refused(Bench(PAIR))

    def test_two_meters_and_two_loads(self):
        self.assert_all_refused(Bench(LIT))

    def test_three_meters(self):
        self.assert_all_refused(Bench(FULL))

    def test_one_meter_of_one_range(self):
        self.assert_all_refused(Bench("meter only\n  range all load 1 unit 1"))

    def test_ahead_of_too_many(self):
        self.assert_all_refused(Bench(MORE))
        self.assert_all_refused(Bench(CROWDED))

    def test_goals(self):
        for text in (PAIR, LIT, MORE, CROWDED):
            bench = Bench(text)
            for value in near_settings(bench):
                self.assert_refused(BadSetting, value, comes, bench, bench.first, value)
                self.assert_refused(BadSetting, value, shows_comes, bench, bench.first, value, None)
                self.assert_refused(BadSetting, value, comes, bench, setting=bench.first, goal=value)

    def test_the_setting_ahead_of_the_goal(self):
        wrong = (["low"], ())
        for text in (PAIR, MORE):
            bench = Bench(text)
            for other in (nested(30), None, (["low"], ()), bench.first):
                self.assert_refused(BadSetting, wrong, comes, bench, wrong, other)
                self.assert_refused(BadSetting, wrong, shows_comes, bench, wrong, other, ("never", ()))

    def test_settings_of_other_benches(self):
        pair = Bench(PAIR)
        for other in (pair.without("side"), pair.without("wide"), Bench(LIT), Bench(FULL), Bench(PAIR + "\nload z 1")):
            for setting in other.settings:
                if setting not in pair.settings:
                    for function, more in CALLS:
                        self.assert_refused(BadSetting, setting, function, pair, setting, *more)


if __name__ == "__main__":
    unittest.main()

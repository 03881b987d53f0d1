"""Section 7: what comes from a setting on one source, rests and rings."""

import random
import unittest
from itertools import permutations

from rangehunt.benches import Bench
from rangehunt.resting import reached, rests, ring, shows_ring
from rangehunt.sources import Source
from rangehunt.stepping import steps, walked
from tests.drawn import bent, drawn_benches, source_of
from tests.tools import FULL, LIT, PAIR, Case, any_values
from tests.world import own_points, right_ring, world_of

WEAK = Source((90, 1), (10, 1))
NONE = Source((0, 1), (0, 1))
RING = (("side", "up"), ("wide", "up"), ("side", "down"), ("wide", "down"))

# On firm sources all of these meters go up or down, each by itself.
LADDERS = "\n".join(
    f"meter {name}\n  range a load 0 unit 1 up 1\n  range b load 0 unit 1 down 1/2 up 2\n  range c load 0 unit 1 down 3/2"
    for name in ("z", "m")
)


def some_sources(rng, bench, many):
    """Sources of unlike classes, on lines and beside them."""
    points = own_points(bench)
    return [source_of(rng.choice(points[found])) for found in rng.sample(list(points), min(many, len(points)))]


class Examples(Case):

    def test_the_example(self):
        pair = Bench(PAIR)
        found = [
            len(reached(pair, pair.first, WEAK)), rests(pair, pair.first, WEAK), ring(pair, pair.first, WEAK)[0],
            ring(pair.without("side"), (("low",), ()), WEAK)[0],
        ]
        self.assert_same(found, [4, (), "hunts", "calm"])

    def test_each_setting_of_the_example(self):
        pair = Bench(PAIR)
        for setting in pair.settings:
            self.assert_same(reached(pair, setting, WEAK), pair.settings)
            self.assert_same(rests(pair, setting, WEAK), ())
            told, row, around = ring(pair, setting, WEAK)
            self.assert_same([told, len(around)], ["hunts", 4])
            self.assert_same(shows_ring(pair, setting, WEAK, (told, row, around)), True)

    def test_a_rest_comes_from_itself(self):
        pair = Bench(PAIR)
        self.assert_same(reached(pair, pair.first, NONE), (pair.first,))
        self.assert_same(rests(pair, pair.first, NONE), (pair.first,))
        self.assert_same(ring(pair, pair.first, NONE), ("calm", (pair.first,)))

    def test_several_rests(self):
        # Beside each other in low they read 4: one goes up, and the other one is then calm.
        text = "meter {}\n  range low load 0 unit 1 up 4\n  range high load 2 unit 1 down 1/2"
        bench = Bench(text.format("b") + "\n" + text.format("a"))
        source = Source((4, 1), (1, 1))
        wanted = ((("high", "low"), ()), (("low", "high"), ()))
        self.assert_same(rests(bench, bench.first, source), wanted)
        self.assert_same(reached(bench, bench.first, source), wanted + (bench.first,))
        self.assert_same(rests(bench, (("high", "low"), ()), source), wanted[:1])
        told, order = ring(bench, bench.first, source)
        self.assert_same([told, order[0], sorted(order)], ["calm", bench.first, sorted(wanted + (bench.first,))])


class Going(Case):

    def test_reached_and_rests_against_going_on_by_steps(self):
        rng = random.Random(71)
        for bench in drawn_benches(71, 60) + drawn_benches(72, 20, slope=1) + [Bench(PAIR), Bench(LIT)]:
            for source in some_sources(rng, bench, 8) + [NONE]:
                world = world_of(bench, source)
                for setting in rng.sample(bench.settings, min(6, len(bench.settings))):
                    self.assert_same(reached(bench, setting, source), tuple(sorted(world.reached(setting))))
                    self.assert_same(rests(bench, setting, source), tuple(sorted(world.rests(setting))))
                    self.assert_same(rests(bench=bench, setting=setting, source=source), rests(bench, setting, source))
                    self.assert_same(reached(bench=bench, setting=setting, source=source), reached(bench, setting, source))

    def test_larger_benches(self):
        rng = random.Random(73)
        for bench in drawn_benches(73, 12, most_lines=300, most_settings=300) + [Bench(FULL)]:
            for volts, ohms in ((rng.randrange(60), rng.randrange(9)) for _ in range(3)):
                source = Source((volts, 1), (ohms, 1))
                world = world_of(bench, source)
                for setting in rng.sample(bench.settings, 2):
                    self.assert_same(reached(bench, setting, source), tuple(sorted(world.reached(setting))))
                    self.assert_same(rests(bench, setting, source), tuple(sorted(world.rests(setting))))
                    self.assert_same(ring(bench, setting, source)[0], "hunts" if world.can_hunt(setting) else "calm")
                    self.assert_same(right_ring(bench, setting, source, ring(bench, setting, source)), True)

    def test_loads_stay_as_they_are(self):
        bench = Bench(LIT)
        for setting in bench.settings:
            for source in (WEAK, NONE, Source((9, 1), (1, 1))):
                for found in (reached(bench, setting, source), rests(bench, setting, source)):
                    self.assertLessEqual({one[1] for one in found}, {setting[1]})


class Rings(Case):

    def test_calm_or_hunts(self):
        rng = random.Random(74)
        words = set()
        for bench in drawn_benches(74, 80) + drawn_benches(75, 40, slope=1) + [Bench(PAIR), Bench(LIT)]:
            for source in some_sources(rng, bench, 8):
                world = world_of(bench, source)
                for setting in rng.sample(bench.settings, min(4, len(bench.settings))):
                    told = ring(bench, setting, source)
                    words.add(told[0])
                    self.assert_same(told[0], "hunts" if world.can_hunt(setting) else "calm")
                    if told[0] == "calm":
                        self.assert_order(bench, setting, source, told)
                    else:
                        self.assert_ring(bench, setting, source, told)
                    self.assert_same(right_ring(bench, setting, source, told), True)
                    self.assert_same(shows_ring(bench, setting, source, told), True)
                    self.assert_same(ring(bench=bench, setting=setting, source=source), told)
        self.assertEqual(words, {"calm", "hunts"})

    def assert_order(self, bench, setting, source, told):
        """Each possible step leads on to a setting further behind."""
        self.assertEqual(len(told), 2)
        order = told[1]
        self.assert_same(tuple(sorted(order)), reached(bench, setting, source))
        for k, one in enumerate(order):
            for step in steps(bench, one, source):
                self.assertIn(walked(bench, one, source, (step,)), order[k + 1:])

    def assert_ring(self, bench, setting, source, told):
        """The row and the ring can be walked, and the ring leads back."""
        self.assertEqual(len(told), 3)
        self.assertGreater(len(told[2]), 0)
        start = walked(bench, setting, source, told[1])
        self.assert_same(walked(bench, start, source, told[2]), start)


class Shows(Case):

    def assert_all(self, bench, setting, source, values, wanted):
        for value in values:
            with self.subTest(value=value):
                self.assert_same(shows_ring(bench, setting, source, value), wanted)
                self.assert_same(right_ring(bench, setting, source, value), wanted)

    def test_rings(self):
        pair = Bench(PAIR)
        first = pair.first
        turned = tuple(RING[k:] + RING[:k] for k in range(4))
        right = [("hunts", RING[:k], turned[k]) for k in range(4)]
        right += [("hunts", (RING + RING)[:k + 4], turned[k]) for k in range(4)]
        right += [("hunts", (), RING + RING), ("hunts", RING * 30, RING * 50), ("hunts", (), RING * 3)]
        self.assert_all(pair, first, WEAK, right, True)
        wrong = [("hunts", RING[:k], turned[j]) for k in range(4) for j in range(4) if j != k]
        wrong += [("hunts", (), ()), ("hunts", RING, ()), ("hunts", RING[:1], ()), ("hunts", (), RING[:2]), ("hunts", (), RING[:3])]
        wrong += [("hunts", (), RING + RING[:1]), ("hunts", (), RING[::-1]), ("hunts", RING[1:], RING), ("hunts", RING, RING[:3])]
        for step in ((["side"], "up"), ({}, "up"), ("side", []), ("side", {}), (), [], {}, ("side",), (("side",), "up")):
            wrong += [("hunts", (), (step,) + RING[1:]), ("hunts", (step,), RING), ("hunts", (step,), (step,))]
        wrong += [("calm", RING, RING), ("Hunts", (), RING), ("hunt", (), RING), ("", (), RING), (None, (), RING), ((), RING)]
        wrong += [["hunts", (), RING], ("hunts", [], RING), ("hunts", (), list(RING)), ("hunts", RING), ("hunts", RING, (), ())]
        wrong += [("hunts", (), RING, None), ("hunts",), "hunts", (), None, ("hunts", None, RING), ("hunts", (), None)]
        wrong += [("hunts", (), tuple(list(step) for step in RING)), ("hunts", (), RING[:3] + (["wide", "down"],))]
        wrong += [("hunts", (), (RING,)), ("hunts", (RING,), RING), ("hunts", "", RING), ("hunts", {}, RING), ("hunts", (), {})]
        wrong += [("hunts", (), RING[:3] + (("wide", "up"),)), ("hunts", (), (("wide", "up"), ("wide", "down")))]
        wrong += [("calm", order) for order in permutations(pair.settings)] + [("calm", ()), ("calm", (first,))]
        self.assert_all(pair, first, WEAK, wrong + any_values(), False)

    def test_all_sequences_of_an_order(self):
        bench = Bench(LADDERS)
        rights = 0
        source = Source((1, 1), (0, 1))
        self.assertEqual(len(reached(bench, bench.first, source)), 4)
        for order in permutations(reached(bench, bench.first, source)):
            wanted = right_ring(bench, bench.first, source, ("calm", order))
            rights += wanted
            self.assert_same(shows_ring(bench, bench.first, source, ("calm", order)), wanted)
        self.assertEqual(rights, 2)

    def test_orders(self):
        bench, source = Bench(LADDERS), Source((2, 1), (0, 1))
        setting = bench.first
        told = ring(bench, setting, source)
        order = told[1]
        self.assert_same([told[0], len(order)], ["calm", 9])
        self.assert_all(bench, setting, source, [told, ("calm", order)], True)
        wrong = [("calm", order[:k] + order[k + 1:]) for k in range(9)]
        wrong += [("calm", order[:k] + order[k:k + 1] + order[k:]) for k in range(9)]
        wrong += [("calm", order[:k] + order[k + 1:] + order[j:j + 1]) for k in range(8) for j in range(k)]
        wrong += [("calm", order[::-1]), ("calm", order[1:] + order[:1]), ("calm", order[-1:] + order[:-1]), ("calm", ())]
        wrong += [("calm", list(order)), ["calm", order], ("calm", order, ()), ("hunts", order), ("calm",), order, (order,)]
        wrong += [("hunts", order, ()), ("hunts", (), ()), ("hunts", (), order), ("Calm", order), ("", order), (None, order)]
        for k in range(9):
            ranges, on = order[k]
            for one in (([ranges[0]], on), (([ranges[0]], "a"), on), (({}, "a"), on), (ranges, ([],)), (ranges, [[]]), (ranges, ("z",)),
                        (list(ranges), on), (ranges, list(on)), [ranges, on], (ranges,), ranges, None, (ranges, on, on),
                        (ranges[::-1] + ("a",), on), ("nobody", on), (("a", "d"), on), {}, "".join(ranges), ((), ())):
                wrong.append(("calm", order[:k] + (one,) + order[k + 1:]))
        self.assert_all(bench, setting, source, wrong + any_values(), False)

    def test_settings_that_do_not_come(self):
        bench, source = Bench(LADDERS), Source((1, 1), (0, 1))
        order = ring(bench, bench.first, source)[1]
        for one in bench.settings:
            if one not in order:
                self.assert_all(bench, bench.first, source, [("calm", order + (one,)), ("calm", (one,) + order)], False)
        self.assert_all(bench, order[1], source, [("calm", order), ("calm", order[:1])], False)

    def test_orders_with_hunting_elsewhere(self):
        # It hunts in just those settings in which the load is off.
        bench = Bench(PAIR + "\nload lamp 9999")
        dark = (bench.first[0], ("lamp",))
        self.assert_same(ring(bench, bench.first, WEAK)[0], "hunts")
        told = ring(bench, dark, WEAK)
        self.assert_same([told, shows_ring(bench, dark, WEAK, told)], [("calm", (dark,)), True])
        self.assert_same(shows_ring(bench, bench.first, WEAK, told), False)

    def test_bent_values(self):
        rng = random.Random(76)
        seen = {("calm", True): 0, ("calm", False): 0, ("hunts", True): 0, ("hunts", False): 0}
        for bench in drawn_benches(76, 60) + drawn_benches(77, 60, slope=1) + [Bench(PAIR), Bench(LADDERS)]:
            for source in some_sources(rng, bench, 4):
                setting = rng.choice(bench.settings)
                told = ring(bench, setting, source)
                for value in bent(rng, told, (source, setting) + bench.settings[:3], 25):
                    wanted = right_ring(bench, setting, source, value)
                    seen[told[0], wanted] += 1
                    with self.subTest(text=bench.text, setting=setting, value=value):
                        self.assert_same(shows_ring(bench=bench, setting=setting, source=source, value=value), wanted)
        self.assertGreater(min(seen.values()), 20)

    def test_values_of_another_source_or_setting(self):
        rng = random.Random(78)
        for bench in drawn_benches(78, 40):
            sources = some_sources(rng, bench, 4)
            for one in sources:
                told = ring(bench, bench.first, one)
                for other in sources:
                    for setting in rng.sample(bench.settings, min(2, len(bench.settings))):
                        wanted = right_ring(bench, setting, other, told)
                        self.assert_same(shows_ring(bench, setting, other, told), wanted)


if __name__ == "__main__":
    unittest.main()
